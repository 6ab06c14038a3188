"""The small functions that several files build on."""

import unittest
from itertools import combinations
from math import comb

from curvefaces.helpers import choices, is_rising, is_whole, ways
from tests.support import GREAT, assert_told


class HelpersTest(unittest.TestCase):

    def test_whole_numbers(self):
        for thing in [0, 1, -1, GREAT, -GREAT]:
            self.assertIs(True, is_whole(thing))
        for thing in [True, False, None, "1", [1], (1,), {1: 1}]:
            self.assertIs(False, is_whole(thing))

    def test_rising(self):
        for things in [(), (1,), (0, 1), (0, 5, 9), ((), (0,), (0, 1), (1,))]:
            self.assertIs(True, is_rising(things))
        for things in [(0, 0), (1, 0), (0, 2, 1), ((0,), ()), ((0,), (0,))]:
            self.assertIs(False, is_rising(things))

    def test_choices(self):
        for many in range(10):
            for size in range(many + 2):
                assert_told(self, list(combinations(range(many), size)), choices(many, size))

    def test_ways(self):
        for given in range(12):
            for taken in range(14):
                assert_told(self, comb(given, taken), ways(taken, given))
        assert_told(self, comb(10 ** 9, 6), ways(6, 10 ** 9))


if __name__ == "__main__":
    unittest.main()
