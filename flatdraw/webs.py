"""Webs: points, and ties between them."""

from flatdraw.errors import NoPoint, NoWeb
from flatdraw.paths import reached

MOST_POINTS = 16
MOST_TIES = 40


class Web:
    """A web of so many points, joined by ties."""

    def __init__(self, many, ties):
        # No refusal shows what it refuses: to write out a very long number would be an error of its own.
        if not is_number(many) or not 1 <= many <= MOST_POINTS:
            raise NoWeb("the count of points is a whole number from 1 to 16")
        if type(ties) != list or len(ties) > MOST_TIES:
            raise NoWeb("the ties are a list of up to 40")
        self.many = many
        self._rows = _joined(many, ties)

    def ties(self):
        """All ties, each with its lesser point first, rising."""
        return [(one, other) for one in range(self.many) for other in self._rows[one] if one < other]

    def beside(self, point):
        """The points to which a tie leads from this one, rising."""
        self._check_point(point)
        return list(self._rows[point])

    def tied(self, one, other):
        """Whether a tie joins these two points."""
        self._check_point(one)
        self._check_point(other)
        return other in self._rows[one]

    def pieces(self):
        """The pieces, each a rising list of points, by their least points."""
        around = [reached(self._rows, point) for point in range(self.many)]
        # Each point has told its whole piece: it is kept from the least one alone.
        return [piece for point, piece in enumerate(around) if piece[0] == point]

    def _check_point(self, thing):
        if not is_point(self.many, thing):
            raise NoPoint("no point of the web")


def _joined(many, ties):
    """For each point the points beside it, rising."""
    rows = [[] for _ in range(many)]
    for tie in ties:
        if not _is_tie(many, tie):
            raise NoWeb("a tie is a tuple of two different points of the web")
        one, other = tie
        if other in rows[one]:
            raise NoWeb("no two ties are between the same two points")
        rows[one].append(other)
        rows[other].append(one)
    return [sorted(row) for row in rows]


def _is_tie(many, thing):
    if type(thing) != tuple or len(thing) != 2:
        return False
    one, other = thing
    return is_point(many, one) and is_point(many, other) and one != other


def is_point(many, thing):
    """Whether this is a point of a web of so many points."""
    return is_number(thing) and 0 <= thing < many


def is_number(thing):
    """Whether this is a whole number."""
    # The exact kind is asked for, because isinstance would take True and False for numbers.
    return type(thing) == int
