"""Points 5, 6 and 7: turns, walks, and flat turns."""

import copy
import unittest
from itertools import combinations, permutations

from flatdraw.errors import NoTurns
from flatdraw.turns import are_turns, flat, walks
from flatdraw.webs import Web
from samples import (Odd, all_turns, all_webs, full_sheet, mixed_ties, mixed_turns, no_numbers, no_points, plain_flat,
                     plain_walks, rows_of)

# Four points all tied, one more on a tie of its own, and two without ties.
TIES = [(1, 0), (0, 2), (3, 0), (1, 2), (3, 1), (2, 3), (4, 2)]
MANY = 7
GOOD = [[1, 2, 3], [0, 3, 2], [3, 4, 0, 1], [2, 1, 0], [2], [], []]

FIVE_ALL = list(combinations(range(5), 2))
THREE_ALL = [(one, other) for one in range(3) for other in range(3, 6)]


class Numb(int):
    """A kind derived from the numbers that fails when it is compared."""

    def __lt__(self, other):
        raise RuntimeError("asked a numb thing")

    __eq__ = __gt__ = __le__ = __ge__ = __lt__
    __hash__ = int.__hash__


def no_lists(good):
    """Things in the place of a list that are no list."""
    return [tuple(good), dict.fromkeys(range(len(good))), dict(enumerate(good)), iter(good), None, True, False, 0, 1,
            len(good), "", "0", b"", 1.5, set(), frozenset(), range(0), range(len(good)), object(), Odd(), list, int,
            (each for each in good), {}, ()]


def wrong_turn(row):
    """Lists that are wrong in the place of one that tells these points."""
    for at, point in enumerate(row):
        yield row[:at] + row[at + 1:]
        yield row[:at] + [point, point] + row[at + 1:]
        for other in range(MANY):
            if other != point:
                yield row[:at] + [other] + row[at + 1:]
        for thing in no_points(MANY) + [point * 1.0, str(point), [point], (point,), Numb(point)]:
            yield row[:at] + [thing] + row[at + 1:]
        if point < 2:
            yield row[:at] + [bool(point)] + row[at + 1:]
    for at in range(len(row) + 1):
        for thing in list(range(MANY)) + no_points(MANY):
            yield row[:at] + [thing] + row[at:]
    yield row + row + [0]
    yield [row]


def wrong_turns():
    """Things that are no turns of the web above."""
    for at, turn in enumerate(GOOD):
        for wrong in list(wrong_turn(turn)) + no_lists(turn):
            yield GOOD[:at] + [wrong] + GOOD[at + 1:]
        yield GOOD[:at] + GOOD[at + 1:]
        yield GOOD[:at] + [turn] + GOOD[at:]
    for at in range(MANY + 1):
        for thing in [[], [0], None, True, 0, "", ()]:
            yield GOOD[:at] + [thing] + GOOD[at:]
    for one, other in combinations(range(5), 2):
        changed = list(GOOD)
        changed[one], changed[other] = GOOD[other], GOOD[one]
        yield changed
    yield []
    yield [GOOD]
    yield GOOD + GOOD
    yield [[]] * MANY
    yield from no_lists(GOOD)
    yield from no_numbers()
    endless = []
    endless.append(endless)
    yield endless
    yield GOOD[:6] + [endless]
    yield GOOD[:4] + [endless] + GOOD[5:]


class AreTurnsTest(unittest.TestCase):
    def test_good_turns_in_each_order(self):
        web = Web(MANY, TIES)
        for at, turn in enumerate(GOOD):
            for order in permutations(turn):
                self.assertIs(are_turns(web, GOOD[:at] + [list(order)] + GOOD[at + 1:]), True)

    def test_turns_of_many_webs(self):
        for seed in range(100):
            many = 1 + seed % 16
            ties = mixed_ties(many, seed % (1 + min(40, many * (many - 1) // 2)), seed)
            self.assertIs(are_turns(Web(many, ties), mixed_turns(many, ties, seed)), True)
            self.assertIs(are_turns(Web(many, ties), rows_of(many, ties)), True)

    def test_points_without_ties(self):
        for many in (1, 2, 16):
            web = Web(many, [])
            self.assertIs(are_turns(web, [[] for _ in range(many)]), True)
            self.assertIs(are_turns(web, [[]] * (many - 1)), False)
            self.assertIs(are_turns(web, [[]] * (many + 1)), False)
            for thing in [(), None, True, "", {}, 0, [0], [None], [[]], Odd(), [Odd()]]:
                for at in {0, many // 2, many - 1}:
                    turns = [[] for _ in range(many)]
                    turns[at] = thing
                    self.assertIs(are_turns(web, turns), False)

    def test_what_is_wrong_is_no_turns(self):
        web = Web(MANY, TIES)
        for wrong in wrong_turns():
            self.assertIs(are_turns(web, wrong), False)

    def test_turns_of_another_web_are_no_turns(self):
        web = Web(4, [(0, 1), (1, 2)])
        self.assertIs(are_turns(web, [[1], [2, 0], [1], []]), True)
        self.assertIs(are_turns(web, [[1], [0], [], []]), False)
        self.assertIs(are_turns(web, [[1], [2, 0], [3, 1], [2]]), False)
        self.assertIs(are_turns(web, [[1, 2], [0], [0], []]), False)
        self.assertIs(are_turns(web, [[1], [2, 0], [1]]), False)

    def test_what_is_no_turns_is_refused(self):
        web = Web(MANY, TIES)
        for ask in (walks, flat):
            for wrong in wrong_turns():
                with self.assertRaises(NoTurns) as caught:
                    ask(web, wrong)
                self.assertIs(type(caught.exception), NoTurns)

    def test_what_is_handed_in_stays_as_it_was(self):
        web = Web(MANY, TIES)
        handed = copy.deepcopy(GOOD)
        for ask in (are_turns, walks, flat):
            ask(web, handed)
            self.assertEqual(handed, GOOD)
        wrong = [[2, 1, 2], [3, 0]]
        self.assertIs(are_turns(web, wrong), False)
        with self.assertRaises(NoTurns):
            walks(web, wrong)
        self.assertEqual(wrong, [[2, 1, 2], [3, 0]])
        self.assertEqual(web.ties(), sorted((min(tie), max(tie)) for tie in TIES))


class WalksTest(unittest.TestCase):
    def test_a_web_without_ties(self):
        self.assertEqual(walks(Web(1, []), [[]]), [])
        self.assertEqual(walks(Web(16, []), [[] for _ in range(16)]), [])

    def test_a_single_tie(self):
        self.assertEqual(walks(Web(2, [(0, 1)]), [[1], [0]]), [[0, 1]])
        self.assertEqual(walks(Web(4, [(3, 1)]), [[], [3], [], [1]]), [[1, 3]])

    def test_a_path(self):
        self.assertEqual(walks(Web(3, [(0, 1), (1, 2)]), [[1], [0, 2], [1]]), [[0, 1, 2, 1]])
        self.assertEqual(walks(Web(3, [(0, 2), (1, 2)]), [[2], [2], [1, 0]]), [[0, 2, 1, 2]])
        self.assertEqual(walks(Web(4, [(3, 0), (0, 1), (1, 2)]), [[1, 3], [2, 0], [1], [0]]), [[0, 1, 2, 1, 0, 3]])

    def test_a_ring(self):
        self.assertEqual(walks(Web(3, [(0, 1), (1, 2), (2, 0)]), [[1, 2], [0, 2], [0, 1]]), [[0, 1, 2], [0, 2, 1]])
        self.assertEqual(walks(Web(5, [(1, 4), (4, 2), (2, 3), (3, 1)]), [[], [4, 3], [3, 4], [2, 1], [1, 2]]),
                         [[1, 3, 2, 4], [1, 4, 2, 3]])

    def test_one_goes_on_to_the_point_behind(self):
        web = Web(4, [(0, 1), (0, 2), (0, 3)])
        self.assertEqual(walks(web, [[1, 2, 3], [0], [0], [0]]), [[0, 1, 0, 2, 0, 3]])
        self.assertEqual(walks(web, [[1, 3, 2], [0], [0], [0]]), [[0, 1, 0, 3, 0, 2]])
        self.assertEqual(walks(web, [[2, 1, 3], [0], [0], [0]]), [[0, 1, 0, 3, 0, 2]])

    def test_behind_the_last_one_comes_the_first_one(self):
        web = Web(5, [(2, 0), (2, 1), (2, 3), (2, 4)])
        turn = [1, 4, 0, 3]
        for at in range(4):
            self.assertEqual(walks(web, [[2], [2], turn[at:] + turn[:at], [2], [2]]), [[0, 2, 3, 2, 1, 2, 4, 2]])

    def test_several_pieces(self):
        web = Web(7, [(6, 0), (1, 2), (2, 4), (4, 1)])
        self.assertEqual(walks(web, [[6], [2, 4], [1, 4], [], [1, 2], [], [0]]), [[0, 6], [1, 2, 4], [1, 4, 2]])

    def test_a_walk_may_go_along_a_tie_both_ways(self):
        web = Web(4, [(0, 1), (1, 2), (2, 0), (2, 3)])
        self.assertEqual(walks(web, [[1, 2], [0, 2], [0, 1, 3], [2]]), [[0, 1, 2, 3, 2], [0, 2, 1]])
        all_tied = Web(4, list(combinations(range(4), 2)))
        self.assertEqual(walks(all_tied, [[1, 2, 3], [0, 3, 2], [0, 1, 3], [0, 2, 1]]),
                         [[0, 1, 3], [0, 2, 1], [0, 3, 2], [1, 2, 3]])
        self.assertEqual(walks(all_tied, [[1, 2, 3], [0, 2, 3], [0, 1, 3], [0, 1, 2]]),
                         [[0, 1, 2, 3], [0, 2, 1, 3, 2, 0, 3, 1]])

    def test_several_walks_from_one_point_by_their_least_steps(self):
        # Two rings that share the point 0, each gone round from it, and both gone round together outside.
        web = Web(5, [(0, 3), (3, 4), (4, 0), (0, 1), (1, 2), (2, 0)])
        self.assertEqual(walks(web, [[1, 2, 3, 4], [0, 2], [0, 1], [0, 4], [0, 3]]),
                         [[0, 1, 2, 0, 3, 4], [0, 2, 1], [0, 4, 3]])
        self.assertEqual(walks(web, [[4, 3, 2, 1], [0, 2], [0, 1], [0, 4], [0, 3]]),
                         [[0, 1, 2], [0, 2, 1, 0, 4, 3], [0, 3, 4]])

    def test_each_way_of_each_tie_is_in_one_walk_once(self):
        for seed in range(150):
            many = 2 + seed % 15
            ties = mixed_ties(many, seed % (1 + min(40, many * (many - 1) // 2)), seed)
            told = walks(Web(many, ties), mixed_turns(many, ties, seed))
            steps = [step for walk in told for step in zip(walk, walk[1:] + walk[:1])]
            self.assertEqual(sorted(steps), sorted(ties + [tie[::-1] for tie in ties]))
            begun = [(walk[0], walk[1]) for walk in told]
            self.assertEqual(begun, sorted(begun))
            for walk in told:
                self.assertEqual((walk[0], walk[1]), min(zip(walk, walk[1:] + walk[:1])))

    def test_walks_of_all_turns_of_small_webs(self):
        for many in range(1, 5):
            for ties in all_webs(many):
                web = Web(many, ties)
                for turns in all_turns(many, ties):
                    self.assertEqual(walks(web, turns), plain_walks(turns))

    def test_walks_of_large_webs(self):
        for seed in range(200):
            ties = mixed_ties(16, seed % 41, seed)
            turns = mixed_turns(16, ties, seed)
            self.assertEqual(walks(Web(16, ties), turns), plain_walks(turns))

    def test_changing_what_was_told_changes_no_later_answer(self):
        web, turns = Web(MANY, TIES), copy.deepcopy(GOOD)
        told = walks(web, turns)
        before = copy.deepcopy(told)
        self.assertIs(type(told), list)
        for walk in told:
            self.assertIs(type(walk), list)
            walk.reverse()
            walk.clear()
        told.clear()
        self.assertEqual(turns, GOOD)
        self.assertEqual(walks(web, turns), before)


class FlatTest(unittest.TestCase):
    def test_points_without_ties(self):
        self.assertIs(flat(Web(1, []), [[]]), True)
        self.assertIs(flat(Web(16, []), [[] for _ in range(16)]), True)

    def test_trees_and_rings_are_flat_by_all_turns(self):
        for ties in [[(0, 1)], [(0, 1), (1, 2)], [(0, 1), (0, 2), (0, 3), (0, 4)], [(0, 1), (1, 2), (2, 0)],
                     [(0, 4), (4, 1), (1, 3), (3, 2), (2, 0)], [(0, 1), (3, 4)]]:
            for turns in all_turns(5, ties):
                self.assertIs(flat(Web(5, ties), turns), True)

    def test_flat_turns_and_others_of_the_same_web(self):
        web = Web(4, list(combinations(range(4), 2)))
        self.assertIs(flat(web, [[1, 2, 3], [0, 3, 2], [0, 1, 3], [0, 2, 1]]), True)
        self.assertIs(flat(web, [[1, 2, 3], [0, 2, 3], [0, 1, 3], [0, 1, 2]]), False)
        told = [flat(web, turns) for turns in all_turns(4, web.ties())]
        self.assertEqual((len(told), told.count(True), told.count(False)), (16, 2, 14))

    def test_two_rings_that_share_a_point(self):
        web = Web(5, [(0, 1), (1, 2), (2, 0), (0, 3), (3, 4), (4, 0)])
        for turn in permutations([1, 2, 3, 4]):
            apart = abs(turn.index(1) - turn.index(2)) != 2
            self.assertIs(flat(web, [list(turn), [0, 2], [0, 1], [0, 4], [0, 3]]), apart)

    def test_each_piece_counts_for_itself(self):
        good = [[1, 2, 3], [0, 3, 2], [0, 1, 3], [0, 2, 1]]
        bad = [[1, 2, 3], [0, 2, 3], [0, 1, 3], [0, 1, 2]]
        ties = list(combinations(range(4), 2))
        web = Web(11, ties + [(one + 5, other + 5) for one, other in ties] + [(9, 10)])
        for first in (good, bad):
            for second in (good, bad):
                turns = first + [[]] + [[point + 5 for point in turn] for turn in second] + [[10], [9]]
                self.assertIs(flat(web, turns), first is good and second is good)

    def test_flat_pieces_with_points_between_them(self):
        web = Web(9, [(0, 8), (8, 3), (3, 0), (1, 6), (2, 7)])
        self.assertIs(flat(web, [[8, 3], [6], [7], [8, 0], [], [], [1], [2], [0, 3]]), True)

    def test_webs_that_have_no_flat_turns(self):
        for many, ties in [(5, FIVE_ALL), (6, THREE_ALL)]:
            told = [flat(Web(many, ties), turns) for turns in all_turns(many, ties)]
            self.assertEqual(len(told), 6 ** 5 if many == 5 else 2 ** 6)
            self.assertNotIn(True, told)

    def test_all_turns_of_small_webs(self):
        for many in range(1, 5):
            for ties in all_webs(many):
                for turns in all_turns(many, ties):
                    self.assertIs(flat(Web(many, ties), turns), plain_flat(many, ties, turns))

    def test_some_turns_of_all_webs_of_5_points(self):
        for seed, ties in enumerate(all_webs(5)):
            turns = mixed_turns(5, ties, seed)
            self.assertIs(flat(Web(5, ties), turns), plain_flat(5, ties, turns))

    def test_large_webs(self):
        for seed in range(300):
            ties = mixed_ties(16, seed % 41, seed)
            turns = mixed_turns(16, ties, seed)
            self.assertIs(flat(Web(16, ties), turns), plain_flat(16, ties, turns))

    def test_a_full_web_is_flat_in_one_way_round_and_the_other(self):
        # Of a web to which no tie can be put any more, turns are flat only as the fields ask for.
        ties = full_sheet(6, 1)
        told = [turns for turns in all_turns(6, ties) if flat(Web(6, ties), turns)]
        self.assertEqual(len(told), 2)
        self.assertEqual(told[0], [turn[:1] + turn[:0:-1] for turn in told[1]])


if __name__ == "__main__":
    unittest.main()
