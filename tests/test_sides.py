"""[51], [52], [53]: low panes and high ones."""

import unittest
from math import comb

from curvefaces.errors import NoCurve, NoNumber, NoPane
from curvefaces.panes import panes, panes_many
from curvefaces.sides import high_panes, is_low, low_panes, sides_many
from tests.support import (CURVES, MANIES, NO_CURVES, ODD_THINGS, all_lots, assert_many_deep_refused, assert_own_list,
                           assert_refused, assert_told, plain_panes)


def behind(pane, corner):
    return len([other for other in pane if other > corner])


def out_of(curve, pane):
    return [corner for corner in range(curve[0]) if corner not in pane]


def due_low(curve, pane):
    return behind(pane, out_of(curve, pane)[-1]) in (0, 2, 4, 6)


class IsLowTest(unittest.TestCase):

    def test_each_pane(self):
        for curve in CURVES:
            for pane in plain_panes(curve):
                self.assertIs(due_low(curve, pane), is_low(curve, pane), (curve, pane))

    def test_by_hand(self):
        for pane in [(0, 1, 2), (0, 2, 3), (0, 3, 4), (0, 4, 5)]:
            self.assertIs(True, is_low((6, 3), pane), pane)
        for pane in [(0, 1, 5), (1, 2, 5), (2, 3, 5), (3, 4, 5)]:
            self.assertIs(False, is_low((6, 3), pane), pane)
        self.assertIs(True, is_low((9, 1), (0,)))
        self.assertIs(False, is_low((9, 1), (8,)))
        self.assertIs(False, is_low((5, 2), (0, 4)))
        self.assertIs(True, is_low((5, 2), (3, 4)))

    def test_no_pane(self):
        for curve in [(2, 1), (6, 3), (9, 6)]:
            for thing in ODD_THINGS:
                # Some of the odd things are lots of deep corners, but none is a pane.
                assert_refused(self, NoPane, is_low, curve, thing)
        for curve in CURVES:
            right = plain_panes(curve)
            for lot in all_lots(curve):
                if lot not in right:
                    assert_refused(self, NoPane, is_low, curve, lot)
            for pane in right[:3]:
                for thing in [list(pane), pane[:-1] + (curve[0],), pane[:-1] + (True,), (pane,), str(pane)]:
                    assert_refused(self, NoPane, is_low, curve, thing)

    def test_no_curve_goes_ahead(self):
        for curve in NO_CURVES:
            for pane in [(0, 1, 2), (0,), (), None, [0, 1, 2], True]:
                assert_refused(self, NoCurve, is_low, curve, pane)


class ListsTest(unittest.TestCase):

    def test_all_curves(self):
        for curve in CURVES:
            every = plain_panes(curve)
            assert_told(self, [pane for pane in every if due_low(curve, pane)], low_panes(curve))
            assert_told(self, [pane for pane in every if not due_low(curve, pane)], high_panes(curve))

    def test_all_panes_each_once(self):
        for curve in CURVES:
            assert_told(self, panes(curve), sorted(low_panes(curve) + high_panes(curve)))

    def test_by_hand(self):
        assert_told(self, [(0,)], low_panes((9, 1)))
        assert_told(self, [(8,)], high_panes((9, 1)))
        assert_told(self, [(0, 1), (1, 2), (2, 3), (3, 4)], low_panes((5, 2)))
        assert_told(self, [(0, 4)], high_panes((5, 2)))
        assert_told(self, [(0, 1, 2), (0, 2, 3)], low_panes((4, 3)))
        assert_told(self, [(0, 1, 3), (1, 2, 3)], high_panes((4, 3)))

    def test_the_list_is_the_askers_own(self):
        for curve in [(2, 1), (5, 2), (6, 3), (9, 6)]:
            assert_own_list(self, low_panes, curve)
            assert_own_list(self, high_panes, curve)

    def test_no_curve(self):
        for curve in NO_CURVES:
            assert_refused(self, NoCurve, low_panes, curve)
            assert_refused(self, NoCurve, high_panes, curve)


class SidesManyTest(unittest.TestCase):

    def test_all_curves(self):
        for curve in CURVES:
            low = len([pane for pane in plain_panes(curve) if due_low(curve, pane)])
            assert_told(self, (low, len(plain_panes(curve)) - low), sides_many(*curve))
            assert_told(self, (len(low_panes(curve)), len(high_panes(curve))), sides_many(*curve))

    def test_beyond_the_curves(self):
        for deep in range(1, 7):
            for many in range(10, 13):
                every = plain_panes((many, deep))
                low = len([pane for pane in every if due_low((many, deep), pane)])
                assert_told(self, (low, len(every) - low), sides_many(many, deep))

    def test_great_numbers(self):
        for many in MANIES:
            due = {
                1: (1, 1), 2: (many - 1, 1), 3: (many - 2, many - 2), 4: (comb(many - 2, 2), many - 3),
                5: (comb(many - 3, 2), comb(many - 3, 2)), 6: (comb(many - 3, 3), comb(many - 4, 2)),
            }
            for deep in range(1, 7):
                assert_told(self, due[deep], sides_many(many, deep))
                self.assertEqual(panes_many(many, deep), sum(sides_many(many, deep)))

    def test_as_many_low_as_high_where_deep_is_odd(self):
        for deep in (1, 3, 5):
            for many in list(range(deep + 1, 10)) + MANIES:
                low, high = sides_many(many, deep)
                self.assertEqual(low, high)

    def test_refused(self):
        assert_many_deep_refused(self, NoNumber, sides_many)


class WhatFollowsTest(unittest.TestCase):

    def test_even_or_odd_many_behind_each_corner_that_is_out(self):
        for curve in CURVES:
            for told, rest in [(low_panes(curve), 0), (high_panes(curve), 1)]:
                for pane in told:
                    for corner in out_of(curve, pane):
                        self.assertEqual(rest, behind(pane, corner) % 2, (curve, pane, corner))

    def test_the_first_corner_and_the_last_one(self):
        for curve in CURVES:
            many, deep = curve
            if deep % 2 == 1:
                self.assertEqual(len(low_panes(curve)), len(high_panes(curve)))
                self.assertTrue(all(0 in pane for pane in low_panes(curve)))
            else:
                self.assertTrue(all(0 in pane and many - 1 in pane for pane in high_panes(curve)))


if __name__ == "__main__":
    unittest.main()
