"""Points 1 and 9 over the whole program: each web can be drawn or has a knot, and none both."""

import copy
import unittest
from itertools import combinations
from random import Random

from flatdraw.drawing import drawn
from flatdraw.knots import is_knot, knot, told
from flatdraw.parts import blocks
from flatdraw.turns import are_turns, flat, walks
from flatdraw.webs import Web
from samples import (all_webs, full_sheet, mixed_ties, plain_flat, plain_knot, plain_turns, renumbered, rising,
                     some_inner, stretched, ties_of, with_more)


def many_webs():
    """Webs of all sizes: any ones, drawn ones with ties more, knots with one tie less."""
    for seed in range(120):
        many = 1 + seed % 16
        yield many, mixed_ties(many, seed % (1 + min(40, many * (many - 1) // 2)), seed)
    for seed in range(80):
        many = 4 + seed % 10
        yield many, with_more(many, full_sheet(many, seed), seed % 3, seed)
    for seed in range(80):
        kind = ["five", "three"][seed % 2]
        many, found = stretched(kind, some_inner(kind, seed % 11, seed), seed)
        ties = with_more(many, ties_of(found)[seed % 5 > 0:], seed % 4, seed)
        yield many, ties


class ToldTest(unittest.TestCase):
    def answer(self, many, ties):
        """What is told of the web, by the plain words of the document; then whether it can be drawn."""
        web = Web(many, ties)
        answer = told(web)
        self.assertIs(type(answer), tuple)
        word, what = answer
        if word == "drawn":
            self.assertTrue(plain_turns(many, ties, what))
            self.assertTrue(plain_flat(many, ties, what))
        else:
            self.assertEqual(word, "knotted")
            self.assertTrue(plain_knot(many, ties, what))
        return word == "drawn"

    def agrees(self, many, ties):
        """As above, and what the other functions tell goes with it."""
        can = self.answer(many, ties)
        web = Web(many, ties)
        turns, found = drawn(web), knot(web)
        self.assertEqual((turns is not None, found is None), (can, can))
        if can:
            self.assertIs(flat(web, turns), True)
            self.assertIs(flat(web, told(web)[1]), True)
        else:
            self.assertIs(is_knot(web, found), True)
            self.assertIs(is_knot(web, told(web)[1]), True)
        return can

    def test_all_webs_of_up_to_5_points(self):
        counts = []
        for many in range(1, 6):
            counts.append([self.agrees(many, ties) for ties in all_webs(many)].count(True))
        self.assertEqual(counts, [1, 2, 8, 64, 1023])

    def test_all_webs_of_6_points(self):
        # So many webs of 6 numbered points can be drawn, as has been counted elsewhere.
        self.assertEqual([self.answer(6, ties) for ties in all_webs(6)].count(True), 32071)

    def test_many_webs(self):
        found = [self.agrees(many, ties) for many, ties in many_webs()]
        self.assertGreater(found.count(True), 50)
        self.assertGreater(found.count(False), 50)

    def test_knots_with_one_tie_less_or_with_all(self):
        for seed in range(22):
            kind = ["five", "three"][seed % 2]
            many, found = stretched(kind, some_inner(kind, seed // 2, seed), seed)
            ties = ties_of(found)
            self.assertFalse(self.agrees(many, ties))
            for tie in ties:
                self.assertTrue(self.agrees(many, [each for each in ties if each != tie]))

    def test_points_numbered_otherwise(self):
        for seed, (many, ties) in enumerate(many_webs()):
            can = drawn(Web(many, ties)) is not None
            for other in (seed, seed + 1000):
                self.assertIs(self.answer(many, renumbered(many, ties, other)), can)

    def test_a_tie_taken_from_what_can_be_drawn(self):
        for seed, (many, ties) in enumerate(many_webs()):
            if drawn(Web(many, ties)) is not None:
                for tie in Random(seed).sample(ties, min(5, len(ties))):
                    self.assertTrue(self.answer(many, [each for each in ties if each != tie]))

    def test_a_tie_put_to_what_cannot_be_drawn(self):
        for seed, (many, ties) in enumerate(many_webs()):
            if drawn(Web(many, ties)) is None and len(ties) < 40:
                known = rising(ties)
                free = [pair for pair in combinations(range(many), 2) if pair not in known]
                for tie in Random(seed).sample(free, min(3, len(free))):
                    self.assertFalse(self.answer(many, ties + [tie]))

    def test_further_points_change_nothing(self):
        for many, ties in many_webs():
            self.assertIs(self.answer(16, ties), drawn(Web(many, ties)) is not None)

    def test_one_point(self):
        self.assertEqual(told(Web(1, [])), ("drawn", [[]]))

    def test_five_points_all_tied(self):
        pairs = list(combinations(range(5), 2))
        self.assertEqual(told(Web(5, pairs)), ("knotted", ("five", [0, 1, 2, 3, 4], [list(pair) for pair in pairs])))

    def test_what_is_told_is_the_askers_own(self):
        for many, ties in list(many_webs())[::7]:
            handed = list(ties)
            web = Web(many, handed)
            before = copy.deepcopy((told(web), drawn(web), knot(web), web.ties(), web.pieces(), blocks(web)))
            for answer in [told(web)[1], drawn(web), knot(web), web.ties(), web.pieces(), blocks(web)]:
                spoil(answer)
            turns = drawn(web)
            if turns is not None:
                gone = copy.deepcopy(walks(web, turns))
                spoil(walks(web, turns))
                self.assertEqual(turns, before[1])
                self.assertEqual(walks(web, turns), gone)
            after = (told(web), drawn(web), knot(web), web.ties(), web.pieces(), blocks(web))
            self.assertEqual(after, before)
            self.assertEqual(handed, ties)


class InterfaceTest(unittest.TestCase):
    def test_each_function_is_defined_where_it_is_listed(self):
        for name, functions in [("parts", [blocks]), ("turns", [are_turns, walks, flat]), ("drawing", [drawn]),
                                ("knots", [is_knot, knot, told])]:
            for function in functions:
                self.assertEqual(function.__module__, "flatdraw." + name)


def spoil(thing):
    """Empties all lists in what was told."""
    if type(thing) in (list, tuple):
        for each in thing:
            spoil(each)
    if type(thing) is list:
        thing.clear()
        thing.append(99)


if __name__ == "__main__":
    unittest.main()
