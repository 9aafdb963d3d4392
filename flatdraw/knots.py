"""Knots: the parts of a web that show that it cannot be drawn without a crossing."""

from itertools import combinations

from flatdraw.drawing import drawn
from flatdraw.webs import Web, is_point

FIVE = "five"
THREE = "three"


def is_knot(web, found):
    """Whether this is a knot of the web."""
    if type(found) != tuple or len(found) != 3:
        return False
    kind, heads, rows = found
    return _are_heads(web, kind, heads) and _are_rows(web, _pairs(kind, heads), rows)


def knot(web):
    """A knot of the web, or None where there is none."""
    if drawn(web) is not None:
        return None
    ties = web.ties()
    # What cannot be drawn, but without any one of its ties can, is a knot and nothing more.
    for tie in web.ties():
        fewer = [each for each in ties if each != tie]
        if drawn(Web(web.many, fewer)) is None:
            ties = fewer
    return _read_knot(Web(web.many, ties))


def told(web):
    """Flat turns as ("drawn", turns), or a knot as ("knotted", knot)."""
    turns = drawn(web)
    if turns is None:
        return "knotted", knot(web)
    return "drawn", turns


def _pairs(kind, heads):
    """The pairs of heads between which the rows lead, in their order."""
    if kind == FIVE:
        return list(combinations(heads, 2))
    return [(one, other) for one in heads[:3] for other in heads[3:]]


def _are_heads(web, kind, heads):
    """Whether this is a kind of knots, and these are the heads of such a knot."""
    if type(kind) != str or not _are_points(web, heads):
        return False
    if kind == FIVE:
        return len(heads) == 5 and _rise(heads)
    if kind != THREE or len(heads) != 6:
        return False
    # The first one is the least of its three already.
    return _rise(heads[:3]) and _rise(heads[3:]) and _differ(heads) and heads[0] < heads[3]


def _are_rows(web, pairs, rows):
    """Whether these are rows between these pairs of heads, in their order, that meet at heads alone."""
    if type(rows) != list or not all([_is_row(web, row) for row in rows]):
        return False
    ends = [(row[0], row[-1]) for row in rows]
    heads = [head for pair in pairs for head in pair]
    inner = [point for row in rows for point in row[1:-1]]
    return ends == pairs and _differ(inner) and not any([point in heads for point in inner])


def _is_row(web, row):
    """Whether this is a list of two or more points, each tied with the next one."""
    if not _are_points(web, row) or len(row) < 2:
        return False
    return all([web.tied(one, other) for one, other in zip(row, row[1:])])


def _are_points(web, things):
    """Whether this is a list of points of the web."""
    return type(things) == list and all([is_point(web.many, thing) for thing in things])


def _rise(points):
    return all([one < other for one, other in zip(points, points[1:])])


def _differ(points):
    return len(set(points)) == len(points)


def _read_knot(web):
    """The knot that the web is, told in order; the web has no ties but those of the knot."""
    heads = [point for point in range(web.many) if len(web.beside(point)) > 2]
    rows = {}
    for head in heads:
        for point in web.beside(head):
            row = _row(web, heads, head, point)
            rows[(head, row[-1])] = row
    if len(heads) == 5:
        kind = FIVE
    else:
        kind = THREE
        others = [head for head in heads if (heads[0], head) in rows]
        heads = [head for head in heads if head not in others] + others
    return kind, heads, [rows[pair] for pair in _pairs(kind, heads)]


def _row(web, heads, head, point):
    """The row from this head over this point to the next head."""
    row = [head, point]
    while row[-1] not in heads:
        one, other = web.beside(row[-1])
        row.append(other if one == row[-2] else one)
    return row
