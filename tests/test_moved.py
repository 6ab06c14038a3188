"""[91], [92], [93]: lots turned about, moved on and named; orders that keep a curve; what is at a corner."""

import random
import unittest
from itertools import permutations

from curvefaces.curves import is_pane
from curvefaces.errors import NoCorner, NoCurve, NoLot, NoOrder, TooMany
from curvefaces.moved import at_corner, does_keep, keepers, moved_on, named, turned_about
from curvefaces.panes import panes
from curvefaces.sides import high_panes, is_low, low_panes
from tests.support import (CURVES, GREAT, NO_CURVES, ODD_THINGS, all_lots, assert_own_list, assert_refused, assert_told,
                           lots_with_one_thing_otherwise, otherwise, plain_panes)

SMALL = [curve for curve in CURVES if curve[0] <= 6]

THINGS = [None, True, False, 0, 3, GREAT, "", "01", (), [], {}, (0,), (1, 0), (0, 1), [0, 1], (0, 1, 2), {0: 1}]


def no_lots(curve):
    """What is no lot of the curve, but looks like one, and things of other kinds."""
    for lot in all_lots(curve)[::9]:
        yield from lots_with_one_thing_otherwise(lot, curve[0])
        yield from [list(lot), [lot], str(lot), {corner: corner for corner in lot}, lot + (curve[0],), (-1,) + lot]
        if lot:
            yield from [lot + lot[-1:], lot[:1] + lot, (lot,)]
    yield from ODD_THINGS


def no_orders(curve):
    """What is no order of the curve, but looks like one, and things of other kinds."""
    many = curve[0]
    plain = tuple(range(many))
    for order in [plain, plain[::-1], plain[1:] + plain[:1]]:
        for at, corner in enumerate(order):
            for thing in [str(corner), (corner,), [corner], None, "", -1, many, GREAT, {corner: 1}, corner == 1,
                          order[at - 1]]:
                yield otherwise(order, at, thing)
            yield order[:at] + order[at + 1:]
        yield from [list(order), order + (many,), order + (0,), (order,), [order], str(order), {k: k for k in order}]
    # Some of the odd things are orders of few corners.
    yield from [thing for thing in ODD_THINGS if thing != (1, 0) or many != 2]


class TurnedAndMovedTest(unittest.TestCase):

    def test_all_lots(self):
        for curve in CURVES:
            many = curve[0]
            for lot in all_lots(curve):
                about = tuple(sorted(many - 1 - corner for corner in lot))
                on = tuple(sorted(corner + 1 if corner + 1 < many else 0 for corner in lot))
                assert_told(self, about, turned_about(curve, lot))
                assert_told(self, on, moved_on(curve, lot))

    def test_by_hand(self):
        assert_told(self, (), turned_about((6, 3), ()))
        assert_told(self, (), moved_on((6, 3), ()))
        assert_told(self, (0, 3, 5), turned_about((6, 3), (0, 2, 5)))
        assert_told(self, (0, 1, 3), moved_on((6, 3), (0, 2, 5)))
        assert_told(self, (0,), moved_on((9, 1), (8,)))
        assert_told(self, (1,), moved_on((2, 1), (0,)))
        assert_told(self, (0, 1, 2, 3, 4, 5, 6), moved_on((7, 6), (0, 1, 2, 3, 4, 5, 6)))

    def test_back_where_it_was(self):
        for curve in CURVES:
            for lot in all_lots(curve)[::3]:
                assert_told(self, lot, turned_about(curve, turned_about(curve, lot)))
                moved = lot
                for step in range(curve[0]):
                    moved = moved_on(curve, moved)
                assert_told(self, lot, moved)

    def test_a_pane_turned_about_is_a_pane(self):
        for curve in CURVES:
            assert_told(self, panes(curve), sorted(turned_about(curve, pane) for pane in panes(curve)))

    def test_a_pane_moved_on_is_one_where_deep_is_even(self):
        for curve in CURVES:
            if curve[1] % 2 == 0:
                assert_told(self, panes(curve), sorted(moved_on(curve, pane) for pane in panes(curve)))
        self.assertIs(False, is_pane(moved_on((3, 1), (0,)), (3, 1)))

    def test_low_panes_and_high_ones_turned_about(self):
        for curve in CURVES:
            even = curve[1] % 2 == 0
            for pane in panes(curve):
                about = is_low(curve, turned_about(curve, pane))
                self.assertIs(is_low(curve, pane) if even else not is_low(curve, pane), about, (curve, pane))
            low = sorted(turned_about(curve, pane) for pane in low_panes(curve))
            assert_told(self, low_panes(curve) if even else high_panes(curve), low)

    def test_no_lot(self):
        for curve in [(2, 1), (5, 2), (6, 3), (9, 6)]:
            for thing in no_lots(curve):
                assert_refused(self, NoLot, turned_about, curve, thing)
                assert_refused(self, NoLot, moved_on, curve, thing)

    def test_no_curve_goes_ahead(self):
        for curve in NO_CURVES:
            for thing in THINGS:
                assert_refused(self, NoCurve, turned_about, curve, thing)
                assert_refused(self, NoCurve, moved_on, curve, thing)


class NamedTest(unittest.TestCase):

    def test_all_lots_by_some_orders(self):
        draw = random.Random(92)
        for curve in CURVES:
            order = list(range(curve[0]))
            draw.shuffle(order)
            for one in [tuple(order), tuple(range(curve[0])), tuple(range(curve[0]))[::-1]]:
                for lot in all_lots(curve):
                    due = tuple(corner for corner in range(curve[0]) if one.index(corner) in lot)
                    assert_told(self, due, named(curve, lot, one))

    def test_all_orders_of_few_corners(self):
        for curve in [curve for curve in CURVES if curve[0] <= 4]:
            for order in permutations(range(curve[0])):
                for lot in all_lots(curve):
                    assert_told(self, tuple(sorted(order[k] for k in lot)), named(curve, lot, order))

    def test_by_hand(self):
        # Corner k becomes the one at place k, not the place at which k stands.
        assert_told(self, (1, 2), named((3, 1), (0, 1), (1, 2, 0)))
        assert_told(self, (), named((3, 1), (), (1, 2, 0)))
        assert_told(self, (0, 3), named((5, 2), (1, 4), (4, 3, 2, 1, 0)))

    def test_turning_about_and_moving_on_are_orders(self):
        for curve in CURVES:
            many = curve[0]
            about = tuple(range(many))[::-1]
            on = tuple(range(1, many)) + (0,)
            for lot in all_lots(curve)[::2]:
                assert_told(self, turned_about(curve, lot), named(curve, lot, about))
                assert_told(self, moved_on(curve, lot), named(curve, lot, on))

    def test_no_order(self):
        for curve in [(2, 1), (5, 2), (6, 3), (9, 6)]:
            for thing in no_orders(curve):
                for lot in [(), (0,), tuple(range(curve[0]))]:
                    assert_refused(self, NoOrder, named, curve, lot, thing)

    def test_no_lot_goes_ahead(self):
        for curve in [(2, 1), (5, 2), (6, 3), (9, 6)]:
            for thing in no_lots(curve):
                for order in [tuple(range(curve[0])), None, (), [0, 1], (0, 0)]:
                    assert_refused(self, NoLot, named, curve, thing, order)

    def test_no_curve_goes_ahead_of_all(self):
        for curve in NO_CURVES:
            for thing in THINGS:
                assert_refused(self, NoCurve, named, curve, thing, thing)
                assert_refused(self, NoCurve, named, curve, (), thing)
                assert_refused(self, NoCurve, named, curve, thing, (0, 1))


def due_keep(order, lots):
    return {tuple(sorted(order[corner] for corner in lot)) for lot in lots} == set(lots)


class DoesKeepTest(unittest.TestCase):

    def test_all_orders_of_few_corners(self):
        for curve in SMALL:
            lots = plain_panes(curve)
            for order in permutations(range(curve[0])):
                self.assertIs(due_keep(order, lots), does_keep(order, curve), (order, curve))

    def test_drawn_orders_of_more_corners(self):
        draw = random.Random(921)
        for curve in [curve for curve in CURVES if curve[0] > 6]:
            lots = plain_panes(curve)
            for drawn in range(40):
                order = list(range(curve[0]))
                if drawn % 2 == 0:
                    one, other = draw.sample(order, 2)
                    order[one], order[other] = order[other], order[one]
                else:
                    draw.shuffle(order)
                self.assertIs(due_keep(order, lots), does_keep(tuple(order), curve), (order, curve))

    def test_orders_that_keep_curves_of_any_many_corners(self):
        for curve in CURVES:
            plain = tuple(range(curve[0]))
            on = plain[1:] + plain[:1]
            self.assertIs(True, does_keep(plain, curve))
            self.assertIs(True, does_keep(plain[::-1], curve))
            # Where deep is odd, a curve is kept so only where all lots of deep corners are panes.
            self.assertIs(curve[1] % 2 == 0 or curve[0] == curve[1] + 1, does_keep(on, curve), curve)

    def test_what_is_no_order(self):
        for curve in [(2, 1), (4, 3), (5, 2), (6, 3), (9, 6)]:
            for thing in no_orders(curve):
                self.assertIs(False, does_keep(thing, curve), (thing, curve))

    def test_no_curve(self):
        for curve in NO_CURVES:
            for thing in THINGS:
                assert_refused(self, NoCurve, does_keep, thing, curve)


class KeepersTest(unittest.TestCase):

    def test_all_curves_of_at_most_six_corners(self):
        for curve in SMALL:
            lots = plain_panes(curve)
            due = [order for order in permutations(range(curve[0])) if due_keep(order, lots)]
            told = keepers(curve)
            assert_told(self, due, told)
            self.assertTrue(all(one < other for one, other in zip(told, told[1:])))

    def test_by_hand(self):
        assert_told(self, [(0, 1), (1, 0)], keepers((2, 1)))
        assert_told(self, [(0, 1, 2), (2, 1, 0)], keepers((3, 1)))
        due = {(6, 1): 48, (6, 2): 12, (6, 3): 4, (6, 4): 72, (6, 5): 720, (5, 4): 120, (5, 3): 12, (4, 2): 8}
        for curve, many in due.items():
            self.assertEqual(many, len(keepers(curve)))

    def test_the_list_is_the_askers_own(self):
        for curve in [(2, 1), (5, 2), (6, 3)]:
            assert_own_list(self, keepers, curve)

    def test_too_many(self):
        for curve in CURVES:
            if curve[0] >= 7:
                assert_refused(self, TooMany, keepers, curve)

    def test_no_curve_goes_ahead(self):
        for curve in NO_CURVES:
            assert_refused(self, NoCurve, keepers, curve)


class AtCornerTest(unittest.TestCase):

    def due(self, curve, corner):
        found = []
        for pane in plain_panes(curve):
            if corner in pane:
                found.append(tuple([k for k in pane if k < corner] + [k - 1 for k in pane if k > corner]))
        return sorted(found)

    def test_all_corners_of_all_curves(self):
        for curve in CURVES:
            for corner in range(curve[0]):
                told = at_corner(curve, corner)
                assert_told(self, self.due(curve, corner), told)
                self.assertTrue(all(one < other for one, other in zip(told, told[1:])))

    def test_by_hand(self):
        assert_told(self, [()], at_corner((9, 1), 0))
        assert_told(self, [()], at_corner((9, 1), 8))
        assert_told(self, [], at_corner((9, 1), 4))
        assert_told(self, [(0,), (3,)], at_corner((5, 2), 4))
        assert_told(self, [(1,), (2,)], at_corner((5, 2), 2))
        assert_told(self, [(0, 1), (0, 2), (1, 2)], at_corner((4, 3), 1))

    def test_of_the_first_and_the_last_corner_they_are_panes(self):
        for many, deep in CURVES:
            if deep > 1:
                for corner in [0, many - 1]:
                    assert_told(self, panes((many - 1, deep - 1)), at_corner((many, deep), corner))

    def test_the_list_is_the_askers_own(self):
        for curve in [(2, 1), (9, 1), (6, 3), (9, 6)]:
            for corner in [0, 1, curve[0] - 1]:
                assert_own_list(self, at_corner, curve, corner)

    def test_no_corner(self):
        for curve in CURVES:
            for corner in [True, False, None, "", "0", "1", [], [0], (), (0,), (1,), {}, {0: 0}, -1, -2, -curve[0],
                           curve[0], curve[0] + 1, GREAT, -GREAT]:
                assert_refused(self, NoCorner, at_corner, curve, corner)

    def test_no_curve_goes_ahead(self):
        for curve in NO_CURVES:
            for thing in THINGS:
                assert_refused(self, NoCurve, at_corner, curve, thing)


if __name__ == "__main__":
    unittest.main()
