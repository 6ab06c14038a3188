"""[21], [22], [23]: panes listed, found from faces, gone through, counted."""

import unittest

from curvefaces.errors import NoCorner, NoCurve, NoFace, NoLot, NoNumber, NoPane
from curvefaces.panes import beyond, first_pane, panes, panes_at, panes_many
from tests.support import (CURVES, GREAT, NO_CURVES, ODD_THINGS, all_lots, assert_refused, assert_told, plain_faces,
                           plain_panes)


class PanesTest(unittest.TestCase):

    def test_by_their_definition(self):
        for curve in CURVES:
            assert_told(self, plain_panes(curve), panes(curve))

    def test_by_hand(self):
        assert_told(self, [(0,), (8,)], panes((9, 1)))
        assert_told(self, [(0, 1), (0, 4), (1, 2), (2, 3), (3, 4)], panes((5, 2)))
        assert_told(self, [(0, 1, 2), (0, 1, 3), (0, 2, 3), (1, 2, 3)], panes((4, 3)))

    def test_no_curve(self):
        for curve in NO_CURVES:
            assert_refused(self, NoCurve, panes, curve)


class PanesAtTest(unittest.TestCase):

    def test_all_lots(self):
        for curve in CURVES:
            every = plain_panes(curve)
            faces = plain_faces(curve)
            for lot in all_lots(curve):
                due = [pane for pane in every if set(lot) <= set(pane)]
                assert_told(self, due, panes_at(curve, lot))
                if lot in faces:
                    assert_told(self, due[0], first_pane(curve, lot))
                else:
                    assert_told(self, [], panes_at(curve, lot))
                    assert_refused(self, NoFace, first_pane, curve, lot)

    def test_by_hand(self):
        assert_told(self, (0, 1, 2), first_pane((6, 3), ()))
        assert_told(self, (0, 3, 4), first_pane((6, 3), (4,)))
        assert_told(self, (2, 3, 5), first_pane((6, 3), (2, 3, 5)))
        assert_told(self, [(0, 2, 3), (0, 3, 4)], panes_at((6, 3), (0, 3)))
        assert_told(self, [], panes_at((6, 3), (1, 3)))
        assert_told(self, [], panes_at((6, 3), (0, 1, 2, 3, 4, 5)))

    def test_refused(self):
        for curve in [(2, 1), (6, 3), (9, 6)]:
            for thing in ODD_THINGS:
                assert_refused(self, NoFace, first_pane, curve, thing)
                assert_refused(self, NoLot, panes_at, curve, thing)
            for thing in [(curve[0],), (0, curve[0]), (1, 0), (1, 1), (-1,)]:
                assert_refused(self, NoFace, first_pane, curve, thing)
                assert_refused(self, NoLot, panes_at, curve, thing)

    def test_no_curve_goes_ahead(self):
        for curve in NO_CURVES:
            for thing in [(), (0,), None, [0], (1, 0)]:
                assert_refused(self, NoCurve, first_pane, curve, thing)
                assert_refused(self, NoCurve, panes_at, curve, thing)


class BeyondTest(unittest.TestCase):

    def test_each_pane_and_corner(self):
        for curve in CURVES:
            every = plain_panes(curve)
            for pane in every:
                for corner in pane:
                    self.check_beyond(curve, every, pane, corner)

    def check_beyond(self, curve, every, pane, corner):
        rest = set(pane) - {corner}
        due = [other for other in every if rest <= set(other) and other != pane]
        self.assertEqual(1, len(due))
        other = beyond(curve, pane, corner)
        assert_told(self, due[0], other)
        new = (set(other) - rest).pop()
        assert_told(self, pane, beyond(curve, other, new))

    def test_by_hand(self):
        assert_told(self, (8,), beyond((9, 1), (0,), 0))
        assert_told(self, (0, 2, 3), beyond((6, 3), (0, 1, 2), 1))
        assert_told(self, (0, 1, 5), beyond((6, 3), (0, 1, 2), 2))
        assert_told(self, (1, 2, 5), beyond((6, 3), (0, 1, 2), 0))

    def test_a_corner_out_of_the_pane(self):
        for curve in CURVES:
            for pane in plain_panes(curve):
                for corner in range(-1, curve[0] + 2):
                    if corner not in pane:
                        assert_refused(self, NoCorner, beyond, curve, pane, corner)

    def test_what_is_no_corner(self):
        numbers = (0, 1, 3)
        for thing in [thing for thing in ODD_THINGS if thing is True or thing is False or thing not in numbers]:
            assert_refused(self, NoCorner, beyond, (6, 3), (0, 1, 2), thing)
        for thing in [True, False, "0", (0,), [0], {0: 1}, None, GREAT]:
            assert_refused(self, NoCorner, beyond, (2, 1), (0,), thing)
            assert_refused(self, NoCorner, beyond, (6, 3), (0, 1, 2), thing)

    def test_what_is_no_pane_goes_ahead(self):
        for thing in ODD_THINGS + [(), (1, 2, 3), (0, 2, 4), (0, 1), (0, 1, 2, 3), (0, 1, 6), (2, 1, 0), [0, 1, 2]]:
            for corner in [0, 1, 7, None, True, [0]]:
                assert_refused(self, NoPane, beyond, (6, 3), thing, corner)

    def test_no_curve_goes_ahead(self):
        for curve in NO_CURVES:
            for pane, corner in [((0, 1, 2), 0), ((0,), 0), (None, 0), ((0,), None), ([0], 9)]:
                assert_refused(self, NoCurve, beyond, curve, pane, corner)


class PanesManyTest(unittest.TestCase):

    def test_as_many_as_listed(self):
        for many, deep in CURVES:
            assert_told(self, len(plain_panes((many, deep))), panes_many(many, deep))

    def test_as_many_as_listed_beyond_the_curves(self):
        for deep in range(1, 7):
            for many in range(10, 14):
                assert_told(self, len(plain_panes((many, deep))), panes_many(many, deep))

    def test_great_numbers(self):
        for many in [10 ** 3, 10 ** 6 + 1, 999999937, 10 ** 9 - 1, 10 ** 9]:
            due = {
                1: 2, 2: many, 3: 2 * (many - 2), 4: many * (many - 3) // 2, 5: (many - 3) * (many - 4),
                6: many * (many - 4) * (many - 5) // 6,
            }
            for deep in range(1, 7):
                assert_told(self, due[deep], panes_many(many, deep))

    def test_bounds(self):
        for deep in range(1, 7):
            assert_told(self, deep + 1, panes_many(deep + 1, deep))
            for many in [deep, deep - 1, 0, -1, -deep - 1, 10 ** 9 + 1, GREAT, -GREAT]:
                assert_refused(self, NoNumber, panes_many, many, deep)
        for deep in [0, -1, 7, 8, GREAT, -GREAT]:
            for many in [1, 2, 8, 9, 10 ** 9, GREAT]:
                assert_refused(self, NoNumber, panes_many, many, deep)

    def test_what_is_no_whole_number(self):
        wrong = [None, True, False, "", "6", "3", [], [6], (), (6,), (6, 3), {}, {6: 3}]
        for thing in wrong:
            assert_refused(self, NoNumber, panes_many, thing, 1)
            assert_refused(self, NoNumber, panes_many, thing, 3)
            assert_refused(self, NoNumber, panes_many, 6, thing)
            for other in wrong:
                assert_refused(self, NoNumber, panes_many, thing, other)


if __name__ == "__main__":
    unittest.main()
