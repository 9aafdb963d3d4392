"""Point 1: the refusals as the interface lists them."""

import unittest

from flatdraw.errors import FlatError, NoPoint, NoTurns, NoWeb
from flatdraw.webs import Web


class ErrorsTest(unittest.TestCase):
    def test_any_refusal_is_a_value_error(self):
        self.assertEqual(FlatError.__bases__, (ValueError,))

    def test_each_refusal_stands_straight_under_the_common_one(self):
        for kind in (NoWeb, NoPoint, NoTurns):
            self.assertEqual(kind.__bases__, (FlatError,))

    def test_refusals_are_caught_as_the_common_one(self):
        with self.assertRaises(FlatError):
            Web(0, [])
        with self.assertRaises(FlatError):
            Web(1, []).beside(1)


if __name__ == "__main__":
    unittest.main()
