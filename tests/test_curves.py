"""[2], [11], [12]: curves, lots, panes, faces; blocks."""

import unittest

from curvefaces.curves import blocks, is_curve, is_face, is_lot, is_pane, odd_inner
from curvefaces.errors import NoCurve, NoLot
from tests.support import (CURVES, GREAT, NO_CURVES, ODD_THINGS, all_lots, assert_refused, assert_told, plain_faces,
                           plain_panes)


class CurveTest(unittest.TestCase):

    def test_just_these_pairs_of_small_numbers_are_curves(self):
        for many in range(-2, 13):
            for deep in range(-2, 10):
                due = 1 <= deep <= 6 and deep + 1 <= many <= 9
                self.assertIs(due, is_curve((many, deep)), (many, deep))

    def test_edges(self):
        for curve in [(2, 1), (9, 1), (7, 6), (9, 6), (6, 3)]:
            self.assertIs(True, is_curve(curve))
        for thing in [(1, 1), (10, 1), (6, 6), (10, 6), (8, 7), (2, 0)]:
            self.assertIs(False, is_curve(thing))

    def test_things_of_whatever_kind(self):
        for thing in NO_CURVES:
            self.assertIs(False, is_curve(thing), thing)

    def test_a_truth_is_no_number(self):
        for thing in [(2, True), (True, True), (6, True), (True, 1), (False, 3), (6, False)]:
            self.assertIs(False, is_curve(thing), thing)

    def test_numbers_of_thirty_figures(self):
        for thing in [(GREAT, 3), (6, GREAT), (GREAT, GREAT - 1), (-GREAT, 3), (6, -GREAT), (GREAT,)]:
            self.assertIs(False, is_curve(thing), thing)


class LotTest(unittest.TestCase):

    def test_all_lots_of_all_curves(self):
        for curve in CURVES:
            for lot in all_lots(curve):
                self.assertIs(True, is_lot(lot, curve), (lot, curve))

    def test_edges(self):
        for curve in CURVES:
            many = curve[0]
            self.assertIs(True, is_lot((), curve))
            self.assertIs(True, is_lot(tuple(range(many)), curve))
            self.assertIs(True, is_lot((many - 1,), curve))
            self.assertIs(False, is_lot((many,), curve))
            self.assertIs(False, is_lot((0, many), curve))
            self.assertIs(False, is_lot((-1,), curve))
            self.assertIs(False, is_lot((-1, 0), curve))
            self.assertIs(False, is_lot(tuple(range(many + 1)), curve))

    def test_not_rising(self):
        for thing in [(0, 0), (1, 0), (0, 2, 1), (0, 1, 1), (5, 4, 3, 2, 1, 0), (2, 3, 2)]:
            self.assertIs(False, is_lot(thing, (6, 3)), thing)

    def test_things_of_whatever_kind(self):
        for curve in [(2, 1), (6, 3), (9, 6)]:
            for thing in ODD_THINGS:
                self.assertIs(False, is_lot(thing, curve), (thing, curve))


class PaneAndFaceTest(unittest.TestCase):

    def test_panes_and_faces_by_their_definition(self):
        for curve in CURVES:
            due_panes = set(plain_panes(curve))
            due_faces = plain_faces(curve)
            for lot in all_lots(curve):
                self.assertIs(lot in due_panes, is_pane(lot, curve), (lot, curve))
                self.assertIs(lot in due_faces, is_face(lot, curve), (lot, curve))

    def test_some_by_hand(self):
        for lot in [(0, 1, 2), (0, 2, 3), (0, 1, 5), (2, 3, 5), (0, 4, 5)]:
            self.assertIs(True, is_pane(lot, (6, 3)), lot)
        for lot in [(1, 2, 3), (0, 2, 4), (1, 3, 5), (0, 1), (0, 1, 2, 3), ()]:
            self.assertIs(False, is_pane(lot, (6, 3)), lot)
        for lot in [(), (0,), (2,), (0, 3), (2, 3), (0, 1, 2)]:
            self.assertIs(True, is_face(lot, (6, 3)), lot)
        for lot in [(1, 3), (2, 4), (1, 2, 3), (0, 1, 2, 3), (0, 1, 2, 3, 4, 5)]:
            self.assertIs(False, is_face(lot, (6, 3)), lot)
        self.assertIs(True, is_face((0,), (9, 1)))
        self.assertIs(True, is_face((8,), (9, 1)))
        self.assertIs(False, is_face((4,), (9, 1)))

    def test_things_of_whatever_kind(self):
        for curve in [(2, 1), (3, 2), (6, 3), (9, 6)]:
            for thing in ODD_THINGS:
                self.assertIs(False, is_pane(thing, curve), (thing, curve))
                self.assertIs(False, is_face(thing, curve), (thing, curve))

    def test_what_is_no_curve_is_refused_whatever_the_other_is(self):
        for curve in NO_CURVES:
            for thing in [(), (0,), (0, 1, 2), None, True, [0], "0", (1, 0), GREAT, {}]:
                for function in [is_lot, is_pane, is_face]:
                    assert_refused(self, NoCurve, function, thing, curve)


class BlocksTest(unittest.TestCase):

    def test_some_by_hand(self):
        assert_told(self, [], blocks((6, 3), ()))
        assert_told(self, [(0, 1, 2, 3, 4, 5)], blocks((6, 3), (0, 1, 2, 3, 4, 5)))
        assert_told(self, [(0,), (2, 3), (5,)], blocks((6, 3), (0, 2, 3, 5)))
        assert_told(self, [(0, 1), (3,), (5, 6, 7)], blocks((9, 6), (0, 1, 3, 5, 6, 7)))
        assert_told(self, 0, odd_inner((6, 3), ()))
        assert_told(self, 0, odd_inner((6, 3), (0, 1, 2, 3, 4, 5)))
        assert_told(self, 0, odd_inner((6, 3), (0, 2, 3, 5)))
        assert_told(self, 2, odd_inner((9, 6), (0, 1, 3, 5, 6, 7)))
        assert_told(self, 1, odd_inner((9, 6), (0, 1, 3, 6, 7, 8)))
        assert_told(self, 4, odd_inner((9, 1), (1, 3, 5, 7)))

    def test_all_lots(self):
        for curve in CURVES:
            for lot in all_lots(curve):
                self.check_blocks(curve, lot)

    def check_blocks(self, curve, lot):
        told = blocks(curve, lot)
        self.assertIs(list, type(told))
        self.assertEqual(lot, sum(told, ()))
        odd = 0
        for block in told:
            self.assertIs(tuple, type(block))
            self.assertEqual(tuple(range(block[0], block[-1] + 1)), block)
            self.assertNotIn(block[0] - 1, lot)
            self.assertNotIn(block[-1] + 1, lot)
            if 0 not in block and curve[0] - 1 not in block and len(block) in (1, 3, 5, 7):
                odd += 1
        assert_told(self, odd, odd_inner(curve, lot))

    def test_what_odd_inner_blocks_tell_of_panes_and_faces(self):
        for curve in CURVES:
            deep = curve[1]
            due_panes = set(plain_panes(curve))
            due_faces = plain_faces(curve)
            for lot in all_lots(curve):
                odd = odd_inner(curve, lot)
                if len(lot) == deep:
                    self.assertEqual(lot in due_panes, odd == 0, (curve, lot))
                if len(lot) <= deep:
                    self.assertEqual(lot in due_faces, odd <= deep - len(lot), (curve, lot))

    def test_refused(self):
        for function in [blocks, odd_inner]:
            for thing in ODD_THINGS:
                assert_refused(self, NoLot, function, (6, 3), thing)
            for thing in [(6,), (0, 6), (1, 0), (2, 2), (-1, 0)]:
                assert_refused(self, NoLot, function, (6, 3), thing)
            for curve in NO_CURVES:
                assert_refused(self, NoCurve, function, curve, (0, 1))
                assert_refused(self, NoCurve, function, curve, ())
                assert_refused(self, NoCurve, function, curve, [1, 0])


if __name__ == "__main__":
    unittest.main()
