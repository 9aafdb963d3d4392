"""Point 4: the blocks of a web."""

import copy
import unittest
from itertools import combinations

from flatdraw.parts import blocks
from flatdraw.webs import Web
from samples import all_webs, deep_blocks, mixed_ties, plain_blocks


class BlocksTest(unittest.TestCase):
    def test_no_ties_no_blocks(self):
        self.assertEqual(blocks(Web(1, [])), [])
        self.assertEqual(blocks(Web(16, [])), [])

    def test_a_tie_on_no_ring_is_a_block_by_itself(self):
        self.assertEqual(blocks(Web(2, [(1, 0)])), [[(0, 1)]])
        self.assertEqual(blocks(Web(4, [(3, 0), (1, 0), (2, 0)])), [[(0, 1)], [(0, 2)], [(0, 3)]])

    def test_a_ring_is_one_block(self):
        self.assertEqual(blocks(Web(3, [(2, 0), (1, 0), (2, 1)])), [[(0, 1), (0, 2), (1, 2)]])
        ring = [(point, (point + 1) % 16) for point in range(16)]
        self.assertEqual(blocks(Web(16, ring)), [sorted((min(tie), max(tie)) for tie in ring)])

    def test_rings_that_share_a_point_are_apart(self):
        web = Web(5, [(4, 2), (2, 3), (4, 3), (2, 1), (1, 0), (0, 2)])
        self.assertEqual(blocks(web), [[(0, 1), (0, 2), (1, 2)], [(2, 3), (2, 4), (3, 4)]])

    def test_rings_that_share_a_tie_are_one_block(self):
        web = Web(4, [(0, 1), (1, 2), (2, 0), (2, 3), (3, 1)])
        self.assertEqual(blocks(web), [web.ties()])

    def test_a_chain_of_rings_that_share_ties_is_one_block(self):
        web = Web(8, [(0, 1), (0, 2), (1, 3), (2, 3), (2, 4), (3, 5), (4, 5), (4, 6), (5, 7), (6, 7)])
        self.assertEqual(blocks(web), [web.ties()])

    def test_a_tie_between_rings_is_on_no_ring(self):
        web = Web(7, [(0, 1), (1, 2), (0, 2), (2, 4), (4, 5), (5, 6), (4, 6)])
        self.assertEqual(blocks(web), [[(0, 1), (0, 2), (1, 2)], [(2, 4)], [(4, 5), (4, 6), (5, 6)]])

    def test_pieces_by_their_least_ties(self):
        web = Web(8, [(7, 3), (3, 1), (1, 7), (0, 6), (2, 5)])
        self.assertEqual(blocks(web), [[(0, 6)], [(1, 3), (1, 7), (3, 7)], [(2, 5)]])

    def test_blocks_that_lie_between_each_other(self):
        web = Web(6, [(0, 3), (3, 5), (5, 0), (0, 2), (2, 4), (4, 0), (0, 1)])
        self.assertEqual(blocks(web), [[(0, 1)], [(0, 2), (0, 4), (2, 4)], [(0, 3), (0, 5), (3, 5)]])

    def test_40_ties_in_one_block(self):
        ties = list(combinations(range(10), 2))[:40]
        self.assertEqual(blocks(Web(16, ties)), [ties])

    def test_all_small_webs(self):
        for many in range(1, 6):
            for ties in all_webs(many):
                self.assertEqual(blocks(Web(many, ties)), plain_blocks(many, ties))

    def test_webs_of_7_points(self):
        for seed in range(150):
            ties = mixed_ties(7, seed % 15, seed)
            self.assertEqual(blocks(Web(7, ties)), plain_blocks(7, ties))

    def test_large_webs(self):
        for seed in range(300):
            ties = mixed_ties(16, seed % 41, seed)
            self.assertEqual(blocks(Web(16, ties)), deep_blocks(16, ties))

    def test_kinds(self):
        told = blocks(Web(4, [(1, 0), (2, 1)]))
        self.assertIs(type(told), list)
        for block in told:
            self.assertIs(type(block), list)
            for tie in block:
                self.assertIs(type(tie), tuple)

    def test_changing_what_was_told_changes_no_web(self):
        web = Web(5, [(1, 0), (1, 2), (0, 2), (3, 2)])
        told = blocks(web)
        before = copy.deepcopy(told)
        for block in told:
            block.clear()
        told.clear()
        self.assertEqual(blocks(web), before)
        self.assertEqual(web.ties(), [(0, 1), (0, 2), (1, 2), (2, 3)])


if __name__ == "__main__":
    unittest.main()
