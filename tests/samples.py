"""Webs and wrong things that several tests use, and answers by the plain words of the document."""

from itertools import combinations, permutations
from random import Random


class Odd:
    """A thing that fails whenever it is compared, measured, counted or gone over."""

    def _fail(self, *rest):
        raise RuntimeError("asked an odd thing")

    __eq__ = __ne__ = __lt__ = __le__ = __gt__ = __ge__ = _fail
    __len__ = __iter__ = __getitem__ = __index__ = __int__ = __bool__ = __contains__ = __repr__ = _fail
    __hash__ = None


def no_numbers():
    """Things of many kinds, none of them a whole number."""
    return [
        True, False, None, 1.0, 0.0, 2.5, float("nan"), float("inf"), 1j, "", "1", "0", b"1", [], [1], (), (1,),
        {}, {1: 1}, set(), {1}, frozenset({1}), range(2), object(), Odd(), int, len, lambda: 1,
    ]


def no_points(many):
    """Things that are no point of a web of so many points."""
    return [many, many + 1, -1, -many, 10 ** 30, -10 ** 30, 10 ** 5000, -10 ** 5000] + no_numbers()


def all_webs(many):
    """The ties of every web of so many points."""
    pairs = list(combinations(range(many), 2))
    for bits in range(2 ** len(pairs)):
        yield [pair for at, pair in enumerate(pairs) if bits >> at & 1]


def mixed_ties(many, size, seed):
    """So many ties in any order, told either way, the same ones each time."""
    chance = Random(seed)
    ties = chance.sample(list(combinations(range(many), 2)), size)
    return [tie if chance.random() < 0.5 else tie[::-1] for tie in ties]


def rising(ties):
    return sorted((min(tie), max(tie)) for tie in ties)


def joined_lists(things, alike):
    """The things in lists, two in one where `alike` holds along some chain of them."""
    lists = []
    for thing in things:
        near = [each for each in lists if any(alike(thing, other) for other in each)]
        lists = [each for each in lists if each not in near]
        lists.append(sum(near, [thing]))
    return sorted(sorted(each) for each in lists)


def rings(many, ties):
    """Each ring of a small web as the list of its ties."""
    known = set(rising(ties))
    for size in range(3, many + 1):
        for points in permutations(range(many), size):
            if points[0] == min(points) and points[1] < points[-1]:
                way = rising(zip(points, points[1:] + points[:1]))
                if known.issuperset(way):
                    yield way


def plain_blocks(many, ties):
    """The blocks by the words of the document: each ring of the web is looked at."""
    together = {(one, other) for ring in rings(many, ties) for one in ring for other in ring}
    return joined_lists(rising(ties), lambda one, other: (one, other) in together)


def plain_pieces(many, ties):
    """The pieces by the words of the document."""
    known = set(rising(ties))
    return joined_lists(range(many), lambda one, other: (min(one, other), max(one, other)) in known)


def deep_blocks(many, ties):
    """The blocks of a web of any size, by going deep and keeping the lowest turn reached."""
    rows = {point: [b if a == point else a for a, b in ties if point in (a, b)] for point in range(many)}
    turn, low, stack, found = {}, {}, [], []

    def go(point, parent):
        turn[point] = low[point] = len(turn)
        for other in rows[point]:
            if other not in turn:
                stack.append((point, other))
                go(other, point)
                low[point] = min(low[point], low[other])
                if low[other] >= turn[point]:
                    cut = stack.index((point, other))
                    found.append(rising(stack[cut:]))
                    del stack[cut:]
            elif other != parent and turn[other] < turn[point]:
                stack.append((point, other))
                low[point] = min(low[point], turn[other])

    for point in range(many):
        if point not in turn:
            go(point, None)
    return sorted(found)
