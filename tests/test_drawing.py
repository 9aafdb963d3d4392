"""Points 7 and 9: flat turns of webs that can be drawn."""

import copy
import unittest
from itertools import combinations
from random import Random

from flatdraw.drawing import drawn
from flatdraw.turns import are_turns, flat
from flatdraw.webs import Web
from samples import (all_webs, full_sheet, mixed_ties, plain_flat, plain_turns, renumbered, some_inner, stretched,
                     ties_of)

FIVE_ALL = list(combinations(range(5), 2))
THREE_ALL = [(one, other) for one in range(3) for other in range(3, 6)]


def ring(points):
    return list(zip(points, points[1:] + points[:1]))


def fan(size):
    """One point tied with all of a path."""
    return [(0, point) for point in range(1, size)] + [(point, point + 1) for point in range(1, size - 1)]


def lattice(high, wide):
    """Points in rows and columns, each tied with those beside it."""
    across = [(wide * row + at, wide * row + at + 1) for row in range(high) for at in range(wide - 1)]
    return across + [(point, point + wide) for point in range(wide * (high - 1))]


def tree(many, seed):
    chance = Random(seed)
    return [(chance.randrange(point), point) for point in range(1, many)]


class DrawnTest(unittest.TestCase):
    def draws(self, many, ties):
        """Whether the web can be drawn as it is and with its points numbered in several other orders."""
        self.draws_once(many, ties)
        for seed in range(5):
            self.draws_once(many, renumbered(many, ties, seed))

    def draws_once(self, many, ties):
        web = Web(many, ties)
        turns = drawn(web)
        self.assertIs(type(turns), list)
        for turn in turns:
            self.assertIs(type(turn), list)
        self.assertTrue(plain_turns(many, ties, turns))
        self.assertTrue(plain_flat(many, ties, turns))
        self.assertIs(are_turns(web, turns), True)
        self.assertIs(flat(web, turns), True)

    def draws_not(self, many, ties):
        for seed in range(5):
            self.assertIsNone(drawn(Web(many, renumbered(many, ties, seed))))

    def test_no_ties(self):
        for many in range(1, 17):
            self.assertEqual(drawn(Web(many, [])), [[] for _ in range(many)])

    def test_a_single_tie(self):
        self.assertEqual(drawn(Web(2, [(1, 0)])), [[1], [0]])
        self.assertEqual(drawn(Web(5, [(3, 1)])), [[], [3], [], [1], []])

    def test_trees(self):
        for many in range(2, 17):
            self.draws(many, [(point, point + 1) for point in range(many - 1)])
            self.draws(many, [(0, point) for point in range(1, many)])
            self.draws(many, tree(many, many))

    def test_rings(self):
        for many in range(3, 17):
            self.draws(many, ring(list(range(many))))
        self.draws(16, ring(list(range(9))))

    def test_rings_that_share_a_point(self):
        self.draws(5, ring([0, 1, 2]) + ring([0, 3, 4]))
        self.draws(16, [tie for at in range(1, 16, 3) for tie in ring([0, at, at + 1, at + 2])])
        self.draws(15, [tie for at in range(0, 13, 2) for tie in ring([at, at + 1, at + 2])])

    def test_rings_that_share_a_tie(self):
        self.draws(4, [(0, 1), (0, 2), (2, 1), (0, 3), (3, 1)])
        self.draws(16, [(0, 1)] + [tie for point in range(2, 16) for tie in [(0, point), (point, 1)]])
        self.draws(8, [(0, 1), (0, 2), (1, 3), (2, 3), (2, 4), (3, 5), (4, 5), (4, 6), (5, 7), (6, 7)])

    def test_fans_wheels_and_lattices(self):
        for many in range(3, 17):
            self.draws(many, fan(many))
        for many in range(4, 17):
            self.draws(many, fan(many) + [(1, many - 1)])
        self.draws(16, lattice(4, 4))
        self.draws(14, lattice(2, 7))
        self.draws(16, [(point, point + 8) for point in range(8)] + ring(list(range(8))) + ring(list(range(8, 16))))

    def test_solids(self):
        self.draws(4, list(combinations(range(4), 2)))
        self.draws(6, [tie for tie in combinations(range(6), 2) if tie not in [(0, 3), (1, 4), (2, 5)]])
        self.draws(8, [tie for tie in combinations(range(8), 2) if (tie[0] ^ tie[1]) in (1, 2, 4)])
        upper, lower = [1, 2, 3, 4, 5], [6, 7, 8, 9, 10]
        between = [tie for at in range(5) for tie in [(upper[at], lower[at]), (upper[at], lower[(at + 1) % 5])]]
        self.draws(12, ring(upper) + ring(lower) + between + [(0, point) for point in upper]
                   + [(11, point) for point in lower])

    def test_several_pieces(self):
        four = list(combinations(range(4), 2))
        self.draws(16, [(one + at, other + at) for at in (0, 4, 8, 12) for one, other in four])
        self.draws(16, four + ring([5, 6, 7]) + [(8, 9), (9, 10)] + [(11, 12)])

    def test_several_blocks_at_a_point(self):
        four = list(combinations(range(4), 2))
        ties = four + [(0, 4), (4, 5), (5, 0)] + [(0, 6)] + [(0, 7), (7, 8), (8, 9), (9, 0), (0, 8), (7, 9)]
        self.draws(12, ties + [(6, 10), (6, 11), (10, 11)])

    def test_webs_to_which_no_tie_can_be_put(self):
        for many in range(3, 16):
            for seed in range(15):
                ties = full_sheet(many, seed)
                self.assertEqual(len(ties), 3 * many - 6)
                self.draws_once(many, ties)
                free = [tie for tie in combinations(range(many), 2) if tie not in [tuple(sorted(tie)) for tie in ties]]
                for tie in Random(seed).sample(free, min(3, len(free))):
                    if len(ties) < 40:
                        self.assertIsNone(drawn(Web(many, ties + [tie])))

    def test_16_points_and_40_ties(self):
        for seed in range(150):
            ties = full_sheet(16, seed)
            self.assertEqual(len(ties), 42)
            self.draws_once(16, Random(seed).sample(ties, 40))

    def test_parts_of_full_webs(self):
        for seed in range(300):
            many = 4 + seed % 12
            ties = full_sheet(many, seed)
            self.draws_once(many, Random(seed).sample(ties, seed % (len(ties) + 1)))

    def test_full_webs_joined_at_points(self):
        for seed in range(60):
            first, second = full_sheet(5 + seed % 3, seed), full_sheet(6, seed + 1)
            many = 5 + seed % 3
            self.draws(many + 5, first + [(one + many - 1, other + many - 1) for one, other in second])

    def test_webs_that_cannot_be_drawn(self):
        self.draws_not(5, FIVE_ALL)
        self.draws_not(6, THREE_ALL)
        self.draws_not(6, list(combinations(range(6), 2)))
        self.draws_not(16, FIVE_ALL)
        self.draws_not(16, list(combinations(range(9), 2)))
        self.draws_not(10, ring([0, 1, 2, 3, 4]) + [(at, at + 5) for at in range(5)] + ring([5, 7, 9, 6, 8]))
        self.draws_not(16, [(one, other) for one in range(16) for other in range(one) if (one ^ other) in (1, 2, 4, 8)])

    def test_stretched_knots_cannot_be_drawn(self):
        for kind, most in [("five", 11), ("three", 10)]:
            for seed in range(20):
                many, found = stretched(kind, some_inner(kind, seed % (most + 1), seed), seed)
                self.draws_not(many, ties_of(found))

    def test_a_knot_in_one_part_alone(self):
        self.draws_not(16, ring([0, 1, 2]) + [(one + 4, other + 4) for one, other in FIVE_ALL] + [(10, 11)])
        self.draws_not(16, ring([0, 1, 2]) + [(one + 2, other + 2) for one, other in THREE_ALL])
        self.draws_not(11, [(one + 5, other + 5) for one, other in THREE_ALL] + list(combinations(range(4), 2)))

    def test_nearly_knots_can_be_drawn(self):
        for left_out in FIVE_ALL:
            self.draws(5, [tie for tie in FIVE_ALL if tie != left_out])
        for left_out in THREE_ALL:
            self.draws(6, [tie for tie in THREE_ALL if tie != left_out])

    def test_all_small_webs(self):
        for many in range(1, 6):
            for ties in all_webs(many):
                if ties == FIVE_ALL:
                    self.assertIsNone(drawn(Web(many, ties)))
                else:
                    self.draws_once(many, ties)

    def test_what_is_told_is_the_askers_own(self):
        for many, ties in [(7, full_sheet(7, 3)), (16, mixed_ties(16, 12, 1)), (4, []), (3, [(0, 1)])]:
            web = Web(many, ties)
            known = web.ties()
            first = drawn(web)
            before = copy.deepcopy(first)
            for turn in first:
                turn.reverse()
                turn.append(99)
            first.clear()
            self.assertEqual(web.ties(), known)
            self.assertEqual(drawn(web), before)


if __name__ == "__main__":
    unittest.main()
