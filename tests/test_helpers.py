"""The small functions that several files build on."""

import unittest
from itertools import combinations
from math import comb

from curvefaces.helpers import choices, high_lots, is_rising, is_whole, low_lots, odd_blocks, ways, without_each
from tests.support import CURVES, GREAT, all_lots, assert_told


class HelpersTest(unittest.TestCase):

    def test_whole_numbers(self):
        for thing in [0, 1, -1, GREAT, -GREAT]:
            self.assertIs(True, is_whole(thing))
        for thing in [True, False, None, "1", [1], (1,), {1: 1}]:
            self.assertIs(False, is_whole(thing))

    def test_rising(self):
        for things in [(), (1,), (0, 1), (0, 5, 9), ((), (0,), (0, 1), (1,))]:
            self.assertIs(True, is_rising(things))
        for things in [(0, 0), (1, 0), (0, 2, 1), ((0,), ()), ((0,), (0,))]:
            self.assertIs(False, is_rising(things))

    def test_choices(self):
        for many in range(10):
            for size in range(many + 2):
                assert_told(self, list(combinations(range(many), size)), choices(many, size))

    def test_ways(self):
        for given in range(12):
            for taken in range(14):
                assert_told(self, comb(given, taken), ways(taken, given))
        assert_told(self, comb(10 ** 9, 6), ways(6, 10 ** 9))

    def test_without_each(self):
        assert_told(self, [(1, 2), (0, 2), (0, 1)], without_each((0, 1, 2)))
        assert_told(self, [()], without_each((5,)))
        assert_told(self, [], without_each(()))

    def test_odd_blocks(self):
        for many in range(2, 10):
            for lot in all_lots((many, 1)):
                signs = "".join("x" if corner in lot else " " for corner in range(many))
                # What is left of the signs between the first and the last one that is out.
                inner = signs[signs.find(" "):signs.rfind(" ")].split() if " " in signs else []
                assert_told(self, len([block for block in inner if len(block) in (1, 3, 5, 7)]), odd_blocks(many, lot))

    def test_where_many_is_deep_all_corners_are_low_and_high(self):
        for deep in range(1, 8):
            assert_told(self, [tuple(range(deep))], low_lots(deep, deep))
            assert_told(self, [tuple(range(deep))], high_lots(deep, deep))

    def test_low_and_high_are_unlike(self):
        for many, deep in CURVES:
            self.assertEqual(set(), set(low_lots(many, deep)) & set(high_lots(many, deep)))


if __name__ == "__main__":
    unittest.main()
