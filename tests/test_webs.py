"""Points 1, 2 and 3: webs, their ties, and their pieces."""

import copy
import unittest
from itertools import combinations

from flatdraw.errors import NoPoint, NoWeb
from flatdraw.webs import Web
from samples import Odd, all_webs, mixed_ties, no_numbers, no_points, plain_pieces, rising


class MakingTest(unittest.TestCase):
    def refused(self, many, ties):
        with self.assertRaises(NoWeb) as caught:
            Web(many, ties)
        self.assertIs(type(caught.exception), NoWeb)

    def test_every_count_from_1_to_16_is_good(self):
        for many in range(1, 17):
            web = Web(many, [])
            self.assertEqual(web.many, many)
            self.assertIs(type(web.many), int)
            self.assertEqual(web.ties(), [])

    def test_other_counts_are_refused(self):
        for many in [0, 17, 18, -1, -16, 40, 10 ** 30, -10 ** 30, 10 ** 5000, -10 ** 5000]:
            self.refused(many, [])

    def test_what_is_no_count_is_refused(self):
        for many in no_numbers():
            self.refused(many, [])

    def test_up_to_40_ties_are_good(self):
        for many in (10, 16):
            pairs = list(combinations(range(many), 2))
            for size in (0, 1, 39, 40):
                self.assertEqual(Web(many, pairs[:size]).ties(), pairs[:size])

    def test_more_than_40_ties_are_refused(self):
        for many in (10, 16):
            pairs = list(combinations(range(many), 2))
            for size in (41, 42, len(pairs)):
                self.refused(many, pairs[:size])
        self.refused(2, [(0, 1)] * 100000)

    def test_what_is_no_list_is_refused(self):
        pair = (0, 1)
        for ties in [(), (pair,), {pair}, {pair: pair}, frozenset([pair]), iter([pair]), "", "01", b"", None, 0, 1,
                     True, False, 1.5, range(0), object(), Odd(), list, ((0, 1) for _ in range(1)), pair]:
            self.refused(2, ties)

    def test_what_is_no_tuple_of_two_is_refused(self):
        for tie in [(), (0,), (0, 1, 2), (0, 1, 1), ((0, 1),), [0, 1], [], {0, 1}, {0: 1, 1: 0}, "01", b"01", "ab",
                    range(2), None, 0, 1, True, 0.5, frozenset({0, 1}), iter((0, 1)), object(), Odd(), tuple]:
            self.refused(3, [tie])
            self.refused(3, [(1, 2), tie])
            self.refused(3, [tie, (1, 2)])

    def test_what_is_no_point_in_a_tie_is_refused(self):
        for many in (2, 16):
            for wrong in no_points(many):
                for tie in [(0, wrong), (wrong, 0), (1, wrong), (wrong, 1), (wrong, wrong)]:
                    self.refused(many, [tie])

    def test_the_least_and_the_greatest_point_may_be_tied(self):
        self.assertEqual(Web(16, [(15, 0)]).ties(), [(0, 15)])
        self.refused(16, [(0, 16)])
        self.refused(16, [(-1, 0)])
        self.refused(1, [(0, 1)])

    def test_a_tie_from_a_point_to_itself_is_refused(self):
        for many in (1, 5, 16):
            for point in range(many):
                self.refused(many, [(point, point)])

    def test_a_tie_told_twice_is_refused_either_way(self):
        for twice in [[(0, 1), (0, 1)], [(0, 1), (1, 0)], [(1, 0), (0, 1)], [(1, 0), (1, 0)]]:
            self.refused(2, twice)
            self.refused(4, [twice[0], (2, 3), (0, 3), twice[1]])

    def test_what_is_handed_in_stays_as_it_was(self):
        for many, ties in [(4, [(3, 1), (2, 0), (0, 1)]), (4, [(3, 1), (1, 3)]), (4, [(2, 1), [0, 1]]),
                           (4, [(2, 1), (0, 4)]), (17, [(2, 1)])]:
            handed = copy.deepcopy(ties)
            try:
                web = Web(many, handed)
                web.ties(), web.pieces(), web.beside(0), web.tied(0, 1)
            except NoWeb:
                pass
            self.assertEqual(handed, ties)


class TellingTest(unittest.TestCase):
    def test_ties_are_rising_and_with_the_lesser_point_first(self):
        web = Web(5, [(4, 2), (1, 0), (0, 3), (2, 1), (0, 2)])
        self.assertEqual(web.ties(), [(0, 1), (0, 2), (0, 3), (1, 2), (2, 4)])
        for tie in web.ties():
            self.assertIs(type(tie), tuple)

    def test_beside_tells_both_ends_rising(self):
        web = Web(6, [(4, 2), (1, 0), (2, 3), (2, 1), (0, 2)])
        self.assertEqual([web.beside(point) for point in range(6)],
                         [[1, 2], [0, 2], [0, 1, 3, 4], [2], [2], []])

    def test_tied_is_told_either_way(self):
        web = Web(4, [(2, 0), (1, 3)])
        told = {(one, other): web.tied(one, other) for one in range(4) for other in range(4)}
        for pair, answer in told.items():
            self.assertIs(answer, pair in [(0, 2), (2, 0), (1, 3), (3, 1)])

    def test_a_point_is_not_tied_with_itself(self):
        web = Web(10, mixed_ties(10, 40, 1))
        for point in range(10):
            self.assertIs(web.tied(point, point), False)

    def test_one_point_alone(self):
        web = Web(1, [])
        self.assertEqual((web.many, web.ties(), web.beside(0), web.tied(0, 0)), (1, [], [], False))

    def test_all_of_many_webs(self):
        for many in range(1, 17):
            most = min(40, many * (many - 1) // 2)
            for size in {0, most // 2, most}:
                ties = mixed_ties(many, size, many)
                web = Web(many, ties)
                known = rising(ties)
                self.assertEqual(web.ties(), known)
                for one in range(many):
                    near = [other for other in range(many) if (min(one, other), max(one, other)) in known]
                    self.assertEqual(web.beside(one), near)
                    self.assertEqual([other for other in range(many) if web.tied(one, other)], near)

    def test_what_is_no_point_is_refused(self):
        for many in (1, 3, 16):
            web = Web(many, [(0, 1)] if many > 1 else [])
            for wrong in no_points(many):
                for ask in [lambda: web.beside(wrong), lambda: web.tied(wrong, 0), lambda: web.tied(0, wrong),
                            lambda: web.tied(wrong, wrong), lambda: web.tied(many - 1, wrong)]:
                    with self.assertRaises(NoPoint) as caught:
                        ask()
                    self.assertIs(type(caught.exception), NoPoint)

    def test_every_point_is_good(self):
        web = Web(16, [(0, 15)])
        for point in range(16):
            self.assertEqual(len(web.beside(point)), 1 if point in (0, 15) else 0)
            self.assertIs(web.tied(point, 0), point == 15)


class OwnershipTest(unittest.TestCase):
    def told(self, web):
        return (web.many, web.ties(), [web.beside(point) for point in range(web.many)], web.pieces(),
                [web.tied(0, point) for point in range(web.many)])

    def test_changing_what_was_handed_in_changes_no_web(self):
        ties = [(1, 0), (1, 2)]
        web = Web(4, ties)
        before = self.told(web)
        ties.append((2, 3))
        ties[0] = (0, 3)
        self.assertEqual(self.told(web), before)
        ties.clear()
        self.assertEqual(self.told(web), before)

    def test_changing_what_was_told_changes_no_web(self):
        web = Web(5, [(1, 0), (1, 2), (3, 4)])
        before = copy.deepcopy(self.told(web))
        web.ties().append((2, 3))
        web.ties().clear()
        for point in range(5):
            web.beside(point).append(9)
            web.beside(point).reverse()
            web.beside(point).clear()
        pieces = web.pieces()
        for piece in pieces:
            piece.clear()
        pieces.clear()
        self.assertEqual(self.told(web), before)

    def test_one_web_changes_no_other(self):
        ties = [(1, 0), (1, 2)]
        first = Web(4, ties)
        before = self.told(first)
        second = Web(4, ties)
        third = Web(6, [(5, 4), (0, 3)])
        second.ties().clear()
        second.beside(1).clear()
        self.assertEqual(self.told(first), before)
        self.assertEqual(self.told(second), before)
        self.assertEqual(third.ties(), [(0, 3), (4, 5)])


class PiecesTest(unittest.TestCase):
    def test_one_point(self):
        self.assertEqual(Web(1, []).pieces(), [[0]])

    def test_points_without_ties(self):
        self.assertEqual(Web(16, []).pieces(), [[point] for point in range(16)])

    def test_several_pieces_by_their_least_points(self):
        web = Web(9, [(8, 0), (5, 2), (2, 7), (7, 5), (6, 3), (3, 8)])
        self.assertEqual(web.pieces(), [[0, 3, 6, 8], [1], [2, 5, 7], [4]])

    def test_a_long_chain_of_ties_is_one_piece(self):
        chain = [0, 15, 1, 14, 2, 13, 3, 12, 4, 11, 5, 10, 6, 9, 7, 8]
        self.assertEqual(Web(16, list(zip(chain, chain[1:]))).pieces(), [list(range(16))])

    def test_40_ties(self):
        self.assertEqual(Web(16, list(combinations(range(10), 2))[:40]).pieces(),
                         [list(range(10))] + [[point] for point in range(10, 16)])

    def test_all_small_webs(self):
        for many in range(1, 6):
            for ties in all_webs(many):
                self.assertEqual(Web(many, ties).pieces(), plain_pieces(many, ties))

    def test_large_webs(self):
        for seed in range(200):
            ties = mixed_ties(16, seed % 41, seed)
            self.assertEqual(Web(16, ties).pieces(), plain_pieces(16, ties))


if __name__ == "__main__":
    unittest.main()
