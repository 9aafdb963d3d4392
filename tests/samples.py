"""Webs and wrong things that several tests use, and answers by the plain words of the document."""

from itertools import combinations, permutations, product
from random import Random


class Odd:
    """A thing that fails whenever it is compared, measured, counted or gone over."""

    def _fail(self, *rest):
        raise RuntimeError("asked an odd thing")

    __eq__ = __ne__ = __lt__ = __le__ = __gt__ = __ge__ = _fail
    __len__ = __iter__ = __getitem__ = __index__ = __int__ = __bool__ = __contains__ = __repr__ = _fail
    __hash__ = None


def no_numbers():
    """Things of many kinds, none of them a whole number."""
    return [
        True, False, None, 1.0, 0.0, 2.5, float("nan"), float("inf"), 1j, "", "1", "0", b"1", [], [1], (), (1,),
        {}, {1: 1}, set(), {1}, frozenset({1}), range(2), object(), Odd(), int, len, lambda: 1,
    ]


def no_points(many):
    """Things that are no point of a web of so many points."""
    return [many, many + 1, -1, -many, 10 ** 30, -10 ** 30, 10 ** 5000, -10 ** 5000] + no_numbers()


def all_webs(many):
    """The ties of every web of so many points."""
    pairs = list(combinations(range(many), 2))
    for bits in range(2 ** len(pairs)):
        yield [pair for at, pair in enumerate(pairs) if bits >> at & 1]


def mixed_ties(many, size, seed):
    """So many ties in any order, told either way, the same ones each time."""
    chance = Random(seed)
    ties = chance.sample(list(combinations(range(many), 2)), size)
    return [tie if chance.random() < 0.5 else tie[::-1] for tie in ties]


def rising(ties):
    return sorted((min(tie), max(tie)) for tie in ties)


def joined_lists(things, alike):
    """The things in lists, two in one where `alike` holds along some chain of them."""
    lists = []
    for thing in things:
        near = [each for each in lists if any(alike(thing, other) for other in each)]
        lists = [each for each in lists if each not in near]
        lists.append(sum(near, [thing]))
    return sorted(sorted(each) for each in lists)


def rings(many, ties):
    """Each ring of a small web as the list of its ties."""
    known = set(rising(ties))
    for size in range(3, many + 1):
        for points in permutations(range(many), size):
            if points[0] == min(points) and points[1] < points[-1]:
                way = rising(zip(points, points[1:] + points[:1]))
                if known.issuperset(way):
                    yield way


def plain_blocks(many, ties):
    """The blocks by the words of the document: each ring of the web is looked at."""
    together = {(one, other) for ring in rings(many, ties) for one in ring for other in ring}
    return joined_lists(rising(ties), lambda one, other: (one, other) in together)


def plain_pieces(many, ties):
    """The pieces by the words of the document."""
    known = set(rising(ties))
    return joined_lists(range(many), lambda one, other: (min(one, other), max(one, other)) in known)


def deep_blocks(many, ties):
    """The blocks of a web of any size, by going deep and keeping the lowest turn reached."""
    rows = {point: [b if a == point else a for a, b in ties if point in (a, b)] for point in range(many)}
    turn, low, stack, found = {}, {}, [], []

    def go(point, parent):
        turn[point] = low[point] = len(turn)
        for other in rows[point]:
            if other not in turn:
                stack.append((point, other))
                go(other, point)
                low[point] = min(low[point], low[other])
                if low[other] >= turn[point]:
                    cut = stack.index((point, other))
                    found.append(rising(stack[cut:]))
                    del stack[cut:]
            elif other != parent and turn[other] < turn[point]:
                stack.append((point, other))
                low[point] = min(low[point], turn[other])

    for point in range(many):
        if point not in turn:
            go(point, None)
    return sorted(found)


def rows_of(many, ties):
    """For each point the points beside it, rising."""
    return [sorted([b for a, b in ties if a == point] + [a for a, b in ties if b == point]) for point in range(many)]


def mixed_turns(many, ties, seed):
    """Any turns of the web, the same ones each time."""
    chance = Random(seed)
    return [chance.sample(row, len(row)) for row in rows_of(many, ties)]


def all_turns(many, ties):
    """All turns of a small web, each order told once, from its least point on."""
    orders = [[row[:1] + list(rest) for rest in permutations(row[1:])] for row in rows_of(many, ties)]
    return [list(turns) for turns in product(*orders)]


def plain_walks(turns):
    """The walks by the words of the document."""
    goes_on = {}
    for point, turn in enumerate(turns):
        for one, behind in zip(turn, turn[1:] + turn[:1]):
            goes_on[one, point] = (point, behind)
    found = set()
    for step in goes_on:
        walk = [step]
        while goes_on[walk[-1]] != step:
            walk.append(goes_on[walk[-1]])
        least = walk.index(min(walk))
        found.add(tuple(walk[least:] + walk[:least]))
    return [[one for one, _ in walk] for walk in sorted(found)]


def plain_flat(many, ties, turns):
    """Whether the turns are flat, by the words of the document."""
    found = plain_walks(turns)
    for piece in plain_pieces(many, ties):
        own_ties = [tie for tie in ties if tie[0] in piece]
        own_walks = [walk for walk in found if walk[0] in piece]
        if own_ties and len(own_walks) != len(own_ties) - len(piece) + 2:
            return False
    return True


def plain_turns(many, ties, turns):
    """Whether these are turns of the web, for a list of lists of whole numbers."""
    return len(turns) == many and [sorted(turn) for turn in turns] == rows_of(many, ties)


def pairs_of(kind, heads):
    """The pairs of heads, in their order."""
    return list(combinations(heads, 2)) if kind == "five" else list(product(heads[:3], heads[3:]))


def plain_knot(many, ties, found):
    """Whether this is a knot of the web, by the words of the document, one after the other."""
    kind, heads, rows = found
    points, known = range(many), set(rising(ties))
    if kind not in ("five", "three") or len(heads) != {"five": 5, "three": 6}[kind]:
        return False
    if any(head not in points for head in heads) or len(set(heads)) != len(heads):
        return False
    if kind == "five" and heads != sorted(heads):
        return False
    if kind == "three" and (heads[:3] != sorted(heads[:3]) or heads[3:] != sorted(heads[3:])):
        return False
    if kind == "three" and heads[0] != min(heads):
        return False
    if any(len(row) < 2 for row in rows) or [(row[0], row[-1]) for row in rows] != pairs_of(kind, heads):
        return False
    for row in rows:
        if any((min(step), max(step)) not in known for step in zip(row, row[1:])):
            return False
        if any(row.count(point) > 1 for point in row) or any(point in heads for point in row[1:-1]):
            return False
    return not any(set(one[1:-1]) & set(other[1:-1]) for one, other in combinations(rows, 2))


def renumbered(many, ties, seed):
    """The same web with its points numbered otherwise."""
    numbers = Random(seed).sample(range(many), many)
    return [(numbers[one], numbers[other]) for one, other in ties]


def full_sheet(many, seed):
    """The ties of a web that can be drawn and to which no tie can be put any more, from three points on."""
    chance = Random(seed)
    fields = [(0, 1, 2), (0, 2, 1)]
    for point in range(3, many):
        a, b, c = fields.pop(chance.randrange(len(fields)))
        fields += [(a, b, point), (b, c, point), (c, a, point)]
    for _ in range(4 * many):
        _turn_a_tie(fields, chance)
    return renumbered(many, sorted({(min(tie), max(tie)) for field in fields for tie in combinations(field, 2)}), seed)


def _turn_a_tie(fields, chance):
    """Takes a tie between two fields of three points and puts one across instead, where there is none yet."""
    (a, b, c), place = fields[0], chance.randrange(3)
    a, b, c = [(a, b, c), (b, c, a), (c, a, b)][place]
    twin = next(field for field in fields[1:] if (b, a) in zip(field, field[1:] + field[:1]))
    far = next(point for point in twin if point not in (a, b))
    if not any({c, far} <= set(field) for field in fields):
        fields.remove(twin)
        fields[0] = (c, a, far)
        fields.append((far, b, c))
    chance.shuffle(fields)


def stretched(kind, inner, seed=None):
    """A knot with so many points in each row between its heads: how many points there are, and the knot.

    With a seed its points are numbered in any order.
    """
    size = {"five": 5, "three": 6}[kind]
    many = size + sum(inner)
    numbers = list(range(many)) if seed is None else Random(seed).sample(range(many), many)
    heads, rest = sorted(numbers[:size]), numbers[size:]
    if kind == "three":
        first = [heads[0]] + sorted(Random(seed).sample(heads[1:], 2))
        heads = first + [head for head in heads if head not in first]
    rows = []
    for (one, other), count in zip(pairs_of(kind, heads), inner):
        rows.append([one] + rest[:count] + [other])
        rest = rest[count:]
    return many, (kind, heads, rows)


def ties_of(found):
    """The ties of a knot."""
    return [step for row in found[2] for step in zip(row, row[1:])]


def some_inner(kind, total, seed):
    """So many points in all, dealt out to the rows of a knot."""
    inner = [0] * {"five": 10, "three": 9}[kind]
    chance = Random(seed)
    for _ in range(total):
        inner[chance.randrange(len(inner))] += 1
    return inner


def with_more(many, ties, size, seed):
    """The ties and so many further ones, in any order."""
    chance = Random(seed)
    known = rising(ties)
    free = [pair for pair in combinations(range(many), 2) if pair not in known]
    more = list(ties) + chance.sample(free, min(size, len(free)))
    return chance.sample(more, len(more))
