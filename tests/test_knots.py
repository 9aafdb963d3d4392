"""Points 8 and 9: what is a knot of a web, and the knots that are found."""

import copy
import unittest
from itertools import combinations
from random import Random

from flatdraw.knots import is_knot, knot
from flatdraw.webs import Web
from samples import (Odd, full_sheet, mixed_ties, no_points, pairs_of, plain_knot, renumbered, rising, some_inner,
                     stretched, ties_of, with_more)

FIVE_ALL = list(combinations(range(5), 2))
THREE_ALL = [(one, other) for one in range(3) for other in range(3, 6)]


def sample_knots():
    """Knots of both kinds, each as its web's points, its web's ties, and the knot."""
    for kind, most in [("five", 11), ("three", 10)]:
        for total in range(most + 1):
            many, found = stretched(kind, some_inner(kind, total, total), total)
            yield many, ties_of(found), found
            wide = min(16, many + 2)
            yield wide, with_more(wide, ties_of(found), min(6, 40 - len(ties_of(found))), total), found
        many, found = stretched(kind, some_inner(kind, 3, 1))
        yield many, list(combinations(range(many), 2)), found


def places(rows, wrong):
    """The rows with each one in turn replaced by each of the lists that `wrong` makes of it."""
    for at, row in enumerate(rows):
        for changed in wrong(row):
            yield rows[:at] + [changed] + rows[at + 1:]


def wrong_heads(many, heads):
    for one, other in combinations(range(len(heads)), 2):
        changed = list(heads)
        changed[one], changed[other] = heads[other], heads[one]
        yield changed
    for at, head in enumerate(heads):
        yield heads[:at] + heads[at + 1:]
        yield heads[:at] + [head] + heads[at:]
        for point in [-1, -many, many, many + 1, 10 ** 30] + [each for each in range(many) if each != head]:
            yield heads[:at] + [point] + heads[at + 1:]
            yield heads[:at] + [point] + heads[at:]
    for at in range(len(heads)):
        yield heads[:at]
    yield heads + [many - 1]
    yield heads + heads
    yield heads[::-1]
    yield heads[3:] + heads[:3]


def wrong_rows(many, rows, known):
    """Rows that are not those of the knot, one thing wrong at a time."""
    for one, other in combinations(range(len(rows)), 2):
        changed = list(rows)
        changed[one], changed[other] = rows[other], rows[one]
        yield changed
    for at, row in enumerate(rows):
        yield rows[:at] + rows[at + 1:]
        yield rows[:at] + [row] + rows[at:]
        yield rows[:at] + [[]] + rows[at:]
    yield []
    yield rows + rows
    yield rows[::-1]
    yield from places(rows, lambda row: [row[::-1], [], row[:1], row[1:], row[:-1], row[:1] + row[-1:-1]])
    yield from places(rows, lambda row: [row[:at] + [point] + row[at:]
                                         for at in range(len(row) + 1) for point in [-1, many, 10 ** 30, *range(many)]
                                         if not is_way(row[:at] + [point] + row[at:], known)])
    yield from places(rows, lambda row: [row[:at] + [point] + row[at + 1:]
                                         for at in range(len(row)) for point in [-1, -many, many]])
    yield from places(rows, lambda row: [row[:at] + row[at + 1:] for at in range(1, len(row) - 1)
                                         if not is_way(row[:at] + row[at + 1:], known)])
    yield from places(rows, lambda row: [row[:at] + row[at - 2:] for at in range(2, len(row) + 1)])


def is_way(points, known):
    return all((min(step), max(step)) in known for step in zip(points, points[1:]))


class IsKnotTest(unittest.TestCase):
    def yes(self, many, ties, found):
        self.assertTrue(plain_knot(many, ties, found))
        self.assertIs(is_knot(Web(many, ties), found), True)

    def no(self, many, ties, found):
        self.assertFalse(plain_knot(many, ties, found))
        self.assertIs(is_knot(Web(many, ties), found), False)

    def test_the_plain_knots(self):
        self.yes(5, FIVE_ALL, ("five", [0, 1, 2, 3, 4], [list(tie) for tie in FIVE_ALL]))
        self.yes(6, THREE_ALL, ("three", [0, 1, 2, 3, 4, 5], [list(tie) for tie in THREE_ALL]))

    def test_a_knot_may_have_its_heads_anywhere(self):
        ties = list(combinations(range(9), 2))
        for heads in combinations(range(9), 5):
            self.yes(9, ties, ("five", list(heads), [list(pair) for pair in combinations(heads, 2)]))
        for heads in combinations(range(9), 6):
            for two in combinations(heads[1:], 2):
                order = [heads[0], *two] + [head for head in heads[1:] if head not in two]
                self.yes(9, ties, ("three", order, [list(pair) for pair in pairs_of("three", order)]))

    def test_knots_with_points_between_the_heads_and_further_ties(self):
        for many, ties, found in sample_knots():
            self.yes(many, ties, found)

    def test_a_row_may_go_round_a_tie_between_its_heads(self):
        rows = [list(tie) for tie in FIVE_ALL]
        ties = FIVE_ALL + [(1, 5), (5, 6), (6, 4)]
        self.yes(7, ties, ("five", [0, 1, 2, 3, 4], rows))
        rows[6] = [1, 5, 6, 4]
        self.yes(7, ties, ("five", [0, 1, 2, 3, 4], rows))

    def test_the_kind(self):
        for many, ties, (kind, heads, rows) in sample_knots():
            for other in ["five", "three", "", "Five", "FIVE", "five ", " three", "six", "four", "5", "3", "threes",
                          "drawn", "knotted"]:
                if other != kind:
                    self.no(many, ties, (other, heads, rows))

    def test_heads(self):
        for many, ties, (kind, heads, rows) in sample_knots():
            for wrong in wrong_heads(many, heads):
                self.no(many, ties, (kind, wrong, rows))
                # With the rows that these heads ask for it may be another knot of a web with many ties.
                found = (kind, wrong, self.rows_for(kind, wrong, heads, rows))
                self.assertIs(is_knot(Web(many, ties), found), plain_knot(many, ties, found))

    def rows_for(self, kind, wrong, heads, rows):
        """The rows of the knot between the wrong heads where it has such rows, elsewhere the two heads."""
        known = dict(zip(pairs_of(kind, heads), rows))
        known.update({pair[::-1]: row[::-1] for pair, row in list(known.items())})
        return [known.get(pair, list(pair)) for pair in pairs_of(kind, wrong)]

    def test_heads_out_of_order_with_the_rows_that_they_ask_for(self):
        every = list(combinations(range(6), 2))
        chance = Random(7)
        for _ in range(300):
            heads = chance.sample(range(6), 6)
            good = heads[0] == 0 and heads[1] < heads[2] and heads[3] < heads[4] < heads[5]
            found = ("three", heads, [list(pair) for pair in pairs_of("three", heads)])
            (self.yes if good else self.no)(6, every, found)
            heads = heads[:5]
            found = ("five", heads, [list(pair) for pair in combinations(heads, 2)])
            (self.yes if heads == sorted(heads) else self.no)(6, every, found)

    def test_three_heads_with_the_least_one_among_the_others(self):
        every = list(combinations(range(6), 2))
        for heads in [[3, 4, 5, 0, 1, 2], [1, 2, 3, 0, 4, 5], [1, 4, 5, 0, 2, 3], [0, 2, 1, 3, 4, 5],
                      [1, 0, 2, 3, 4, 5], [0, 1, 2, 4, 3, 5], [0, 1, 2, 3, 5, 4]]:
            self.no(6, every, ("three", heads, [list(pair) for pair in pairs_of("three", heads)]))

    def test_a_head_told_twice_with_the_rows_that_it_asks_for(self):
        every = list(combinations(range(9), 2))
        # A row from a head to itself would be a step that is no tie, or go round a ring.
        for heads in [[0, 1, 2, 2, 3], [0, 0, 1, 2, 3], [0, 1, 2, 3, 3]]:
            self.no(9, every, ("five", heads, [list(pair) for pair in combinations(heads, 2)]))
            self.no(9, every, ("five", heads, [[a, 8, b] if a == b else [a, b] for a, b in combinations(heads, 2)]))
        for heads in [[0, 1, 2, 2, 3, 4], [0, 1, 1, 2, 3, 4], [0, 1, 2, 3, 3, 4], [0, 1, 2, 0, 3, 4]]:
            self.no(9, every, ("three", heads, [list(pair) for pair in pairs_of("three", heads)]))
            self.no(9, every, ("three", heads, [[a, 8, b] if a == b else [a, b] for a, b in pairs_of("three", heads)]))

    def test_heads_that_are_too_few_or_too_many_with_the_rows_that_they_ask_for(self):
        every = list(combinations(range(8), 2))
        for size in (0, 1, 2, 3, 4, 6, 7, 8):
            heads = list(range(size))
            self.no(8, every, ("five", heads, [list(pair) for pair in combinations(heads, 2)]))
        for size in (0, 1, 2, 3, 4, 5, 7, 8):
            heads = list(range(size))
            self.no(8, every, ("three", heads, [list(pair) for pair in pairs_of("three", heads)]))

    def test_rows(self):
        for many, ties, (kind, heads, rows) in sample_knots():
            known = set(rising(ties))
            for wrong in wrong_rows(many, rows, known):
                self.no(many, ties, (kind, heads, wrong))

    def test_a_row_through_a_head(self):
        every = list(combinations(range(7), 2))
        rows = [list(tie) for tie in FIVE_ALL]
        for at, (one, other) in enumerate(FIVE_ALL):
            for point in range(7):
                found = ("five", [0, 1, 2, 3, 4], rows[:at] + [[one, point, other]] + rows[at + 1:])
                (self.yes if point > 4 else self.no)(7, every, found)
        rows = [list(tie) for tie in THREE_ALL]
        for at, (one, other) in enumerate(THREE_ALL):
            for point in range(7):
                found = ("three", [0, 1, 2, 3, 4, 5], rows[:at] + [[one, point, other]] + rows[at + 1:])
                (self.yes if point > 5 else self.no)(7, every, found)

    def test_a_row_through_a_point_of_another_row(self):
        every = list(combinations(range(8), 2))
        for kind, ties in [("five", FIVE_ALL), ("three", THREE_ALL)]:
            heads = sorted({point for tie in ties for point in tie})
            for first, second in combinations(range(len(ties)), 2):
                for one, other in [(6, 7), (7, 7), (6, 6)]:
                    rows = [list(tie) for tie in ties]
                    rows[first].insert(1, one)
                    rows[second].insert(1, other)
                    (self.yes if one != other else self.no)(8, every, (kind, heads, rows))

    def test_a_row_twice_through_a_point(self):
        every = list(combinations(range(8), 2))
        for way in [[6, 7, 6], [6, 7, 5, 6], [5, 6, 7, 6, 5], [6, 6]]:
            rows = [list(tie) for tie in FIVE_ALL]
            rows[3] = [0] + way + [4]
            self.no(8, every, ("five", [0, 1, 2, 3, 4], rows))
        for way in [[0, 5, 0, 1], [0, 1, 5, 1], [0, 1, 0, 1]]:
            self.no(8, every, ("five", [0, 1, 2, 3, 4], [way] + [list(tie) for tie in FIVE_ALL[1:]]))

    def test_a_row_along_no_tie(self):
        for many, ties, found in sample_knots():
            for tie in rising(ties_of(found)):
                self.no(many, [each for each in ties if tuple(sorted(each)) != tie], found)

    def test_a_knot_of_another_web(self):
        found = ("five", [0, 1, 2, 3, 4], [list(tie) for tie in FIVE_ALL])
        self.no(16, [], found)
        self.no(4, list(combinations(range(4), 2)), found)
        self.no(6, THREE_ALL, found)
        self.no(1, [], ("three", [], []))
        self.no(1, [], ("five", [], []))
        self.no(1, [], ("five", [0], []))
        self.no(5, FIVE_ALL, ("five", [], []))
        self.no(5, FIVE_ALL, ("five", [0, 1, 2, 3, 4], []))

    def test_what_stands_in_the_lists(self):
        for kind, ties in [("five", FIVE_ALL), ("three", THREE_ALL)]:
            heads = sorted({point for tie in ties for point in tie})
            rows = [list(tie) for tie in ties]
            web = Web(16, ties)
            for at in range(len(heads)):
                for thing in no_points(16):
                    self.assertIs(is_knot(web, (kind, heads[:at] + [thing] + heads[at + 1:], rows)), False)
            for at, row in enumerate(rows):
                for thing in no_points(16):
                    for wrong in [[thing, row[1]], [row[0], thing], [row[0], thing, row[1]], thing, tuple(row)]:
                        self.assertIs(is_knot(web, (kind, heads, rows[:at] + [wrong] + rows[at + 1:])), False)
            self.assertIs(is_knot(web, (kind, heads, rows)), True)

    def test_what_is_no_such_tuple(self):
        found = ("five", [0, 1, 2, 3, 4], [list(tie) for tie in FIVE_ALL])
        web = Web(5, FIVE_ALL)
        for wrong in [None, (), [], "five", 5, True, found[:2], found[:1], found + (1,), list(found), Odd(), {},
                      ("five", tuple(found[1]), found[2]), ("five", found[1], tuple(found[2])), (None, *found[1:]),
                      (Odd(), *found[1:]), ("five", Odd(), found[2]), ("five", found[1], Odd()), (found,)]:
            self.assertIs(is_knot(web, wrong), False)
        self.assertIs(is_knot(web, found), True)

    def test_mixed_up_knots(self):
        for many, ties, found in sample_knots():
            for seed in range(40):
                wrong = mixed_up(many, found, Random(seed))
                self.assertIs(is_knot(Web(many, ties), wrong), plain_knot(many, ties, wrong))

    def test_what_is_handed_in_stays_as_it_was(self):
        for many, ties, found in sample_knots():
            web = Web(many, ties)
            for handed in (found, mixed_up(many, found, Random(many)), (found[0], found[1][::-1], found[2][::-1])):
                before = copy.deepcopy(handed)
                is_knot(web, handed)
                self.assertEqual(handed, before)
                self.assertEqual(web.ties(), rising(ties))


def mixed_up(many, found, chance):
    """The knot with a point, a row or two of these changed."""
    kind, heads, rows = copy.deepcopy(found)
    for _ in range(chance.randrange(1, 3)):
        points = chance.choice([heads] + rows)
        what = chance.randrange(4)
        if what == 0:
            points.insert(chance.randrange(len(points) + 1), chance.randrange(many))
        elif what == 1 and points:
            points.pop(chance.randrange(len(points)))
        elif what == 2 and points:
            points[chance.randrange(len(points))] = chance.randrange(many)
        else:
            chance.shuffle(chance.choice([points, rows]))
    return kind, heads, rows


class KnotTest(unittest.TestCase):
    def finds(self, many, ties):
        web = Web(many, ties)
        found = knot(web)
        self.assertIs(type(found), tuple)
        kind, heads, rows = found
        self.assertEqual((type(kind), type(heads), type(rows)), (str, list, list))
        for point in heads + [point for row in rows for point in row]:
            self.assertIs(type(point), int)
        for row in rows:
            self.assertIs(type(row), list)
        self.assertTrue(plain_knot(many, ties, found))
        self.assertIs(is_knot(web, found), True)
        return found

    def test_the_plain_knots(self):
        self.assertEqual(self.finds(5, FIVE_ALL), ("five", [0, 1, 2, 3, 4], [list(tie) for tie in FIVE_ALL]))
        self.assertEqual(self.finds(6, THREE_ALL), ("three", [0, 1, 2, 3, 4, 5], [list(tie) for tie in THREE_ALL]))

    def test_a_web_that_is_a_knot_and_nothing_more(self):
        # There is only the one knot in it, and so that one is told.
        for kind, most in [("five", 11), ("three", 10)]:
            for total in range(most + 1):
                for seed in range(4):
                    many, found = stretched(kind, some_inner(kind, total, seed), seed)
                    self.assertEqual(self.finds(many, ties_of(found)), found)

    def test_with_further_ties_and_points(self):
        for kind, most in [("five", 11), ("three", 10)]:
            for seed in range(60):
                many, found = stretched(kind, some_inner(kind, seed % (most + 1), seed), seed)
                wide = min(16, many + seed % 4)
                ties = ties_of(found)
                self.finds(wide, with_more(wide, ties, seed % (41 - len(ties)), seed))

    def test_16_points_and_40_ties(self):
        for seed in range(40):
            kind = ["five", "three"][seed % 2]
            many, found = stretched(kind, some_inner(kind, 11 if kind == "five" else 10, seed), seed)
            ties = with_more(16, ties_of(found), 40, seed)
            kept = ties_of(found) + [tie for tie in ties if tie not in ties_of(found)]
            self.finds(16, Random(seed).sample(kept[:40], 40))

    def test_several_pieces(self):
        five = [(one + 3, other + 3) for one, other in FIVE_ALL]
        three = [(one + 9, other + 9) for one, other in THREE_ALL]
        ring = [(0, 1), (1, 2), (2, 0)]
        self.assertEqual(self.finds(16, ring + five)[:2], ("five", [3, 4, 5, 6, 7]))
        self.assertEqual(self.finds(16, three + ring)[:2], ("three", [9, 10, 11, 12, 13, 14]))
        self.assertIn(self.finds(16, five + three)[:2],
                      [("five", [3, 4, 5, 6, 7]), ("three", [9, 10, 11, 12, 13, 14])])

    def test_all_points_tied(self):
        for many in (5, 6, 7, 8, 9):
            self.finds(many, list(combinations(range(many), 2)))

    def test_a_full_sheet_with_a_tie_more(self):
        for seed in range(60):
            many = 5 + seed % 10
            ties = full_sheet(many, seed)
            self.finds(many, with_more(many, ties, 1, seed))

    def test_the_ten_points_of_two_rings_of_five(self):
        ring = [(0, 1), (1, 2), (2, 3), (3, 4), (4, 0)]
        ties = ring + [(at, at + 5) for at in range(5)] + [(5, 7), (7, 9), (9, 6), (6, 8), (8, 5)]
        self.assertEqual(self.finds(10, ties)[0], "three")
        for seed in range(10):
            self.assertEqual(self.finds(10, renumbered(10, ties, seed))[0], "three")

    def test_none_for_what_can_be_drawn(self):
        for many in range(1, 17):
            self.assertIsNone(knot(Web(many, [])))
        for left_out in FIVE_ALL:
            self.assertIsNone(knot(Web(5, [tie for tie in FIVE_ALL if tie != left_out])))
        for left_out in THREE_ALL:
            self.assertIsNone(knot(Web(6, [tie for tie in THREE_ALL if tie != left_out])))
        for seed in range(60):
            many = 3 + seed % 14
            ties = full_sheet(many, seed)
            self.assertIsNone(knot(Web(many, Random(seed).sample(ties, min(40, len(ties))))))

    def test_none_for_knots_with_one_tie_less(self):
        for many, found in [stretched(kind, some_inner(kind, seed % 11, seed), seed)
                            for kind in ("five", "three") for seed in range(11)]:
            ties = ties_of(found)
            for tie in ties:
                self.assertIsNone(knot(Web(many, [each for each in ties if each != tie])))

    def test_what_is_told_is_the_askers_own(self):
        for ties in [FIVE_ALL, THREE_ALL, mixed_ties(16, 40, 1)]:
            web = Web(16, ties)
            known = web.ties()
            first = knot(web)
            before = copy.deepcopy(first)
            _, heads, rows = first
            for row in rows:
                row.reverse()
                row.append(99)
            heads.reverse()
            heads.append(99)
            rows.clear()
            self.assertEqual(web.ties(), known)
            self.assertEqual(knot(web), before)


if __name__ == "__main__":
    unittest.main()
