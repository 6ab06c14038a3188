"""[71], [72], [73]: knots and their halves, covers turned up and down, ways up, turns between covers."""

import unittest

from curvefaces.covers import all_covers, highest, is_cover, lowest
from curvefaces.errors import NoCover, NoCurve, NoLot, NoTurn, TooMany
from curvefaces.turns import downs, halves, steps_between, turned_down, turned_up, ups, way_up
from tests.support import (COVERS, GREAT, GREAT_CURVES, NO_CURVES, ODD_THINGS, SMALL_CURVES, all_lots, assert_own_list,
                           assert_refused, assert_told, knots_of, lots_with_one_thing_otherwise, plain_halves,
                           plain_turned)

# Those that have a knot at all.
KNOTTED = [curve for curve in SMALL_CURVES if knots_of(curve)]

THINGS = [None, True, False, 0, GREAT, "", "0123", (), [], {}, (0,), [0, 1, 2], (1, 0), ((0, 1),), ((0, 1, 2),), {0: 1}]


def due_up(cover, knot):
    low, high = plain_halves(knot)
    return plain_turned(cover, low, high)


def due_down(cover, knot):
    low, high = plain_halves(knot)
    return plain_turned(cover, high, low)


def no_knots(curve):
    """What is no knot of the curve, but looks like one, and things of other kinds."""
    for knot in knots_of(curve)[:2] + knots_of(curve)[-2:]:
        yield from lots_with_one_thing_otherwise(knot, curve[0])
        yield from [list(knot), knot[::-1], (knot,), [knot], str(knot), {corner: True for corner in knot}]
        yield from [knot[:at] + knot[at + 1:] for at in range(len(knot))]
        yield from [knot + (corner,) for corner in range(curve[0] + 1)]
    yield from [lot for lot in all_lots(curve) if len(lot) != curve[1] + 2]
    yield from [thing for thing in ODD_THINGS if thing not in knots_of(curve)]
    yield from [tuple(range(curve[1] + 1)), tuple(range(curve[1] + 3)), plain_halves(tuple(range(curve[1] + 2)))]


def no_covers(curve):
    """What is no cover of the curve, but looks like one, and things of other kinds."""
    for cover in [COVERS[curve][0], COVERS[curve][-1]]:
        yield from [list(cover), cover + cover[-1:], cover[1:], (cover,), [cover], str(cover), cover[0]]
        yield from [cover + (None,), (list(cover[0]),) + cover[1:], (cover[0][::-1],) + cover[1:], cover + ((),), {cover: True}]
        for bad in lots_with_one_thing_otherwise(cover[0], curve[0]):
            yield (bad,) + cover[1:]
    for thing in ODD_THINGS + THINGS:
        if thing not in COVERS[curve]:
            yield thing


class HalvesTest(unittest.TestCase):

    def test_all_knots_of_all_curves(self):
        for curve in SMALL_CURVES:
            for knot in knots_of(curve):
                assert_told(self, plain_halves(knot), halves(curve, knot))

    def test_by_hand(self):
        assert_told(self, (((0, 1), (1, 2)), ((0, 2),)), halves((3, 1), (0, 1, 2)))
        assert_told(self, (((0, 1, 2), (0, 2, 3)), ((0, 1, 3), (1, 2, 3))), halves((4, 2), (0, 1, 2, 3)))
        assert_told(self, (((0, 2, 4), (0, 4, 6)), ((0, 2, 6), (2, 4, 6))), halves((7, 2), (0, 2, 4, 6)))
        assert_told(self, (((0, 1, 2, 3), (0, 1, 3, 4), (1, 2, 3, 4)), ((0, 1, 2, 4), (0, 2, 3, 4))),
                    halves((5, 3), (0, 1, 2, 3, 4)))

    def test_a_tuple_of_two_rising_tuples_with_all_cells_of_the_knot(self):
        for curve in SMALL_CURVES:
            for knot in knots_of(curve):
                told = halves(curve, knot)
                self.assertEqual([tuple, tuple, tuple], [type(told)] + [type(half) for half in told])
                low, high = told
                self.assertEqual(low, tuple(sorted(set(low))))
                self.assertEqual(high, tuple(sorted(set(high))))
                self.assertEqual(curve[1] + 2, len(set(low + high)))

    def test_the_low_ones_are_the_lowest_cover_of_as_many_corners(self):
        for curve in [(3, 1), (4, 2), (5, 3), (6, 4)]:
            knot = tuple(range(curve[0]))
            assert_told(self, (lowest(curve), highest(curve)), halves(curve, knot))

    def test_what_is_no_knot(self):
        for curve in SMALL_CURVES:
            for thing in no_knots(curve):
                assert_refused(self, NoLot, halves, curve, thing)

    def test_too_many_goes_ahead(self):
        for curve in GREAT_CURVES:
            for thing in [tuple(range(curve[1] + 2)), tuple(range(curve[1] + 1))] + THINGS:
                assert_refused(self, TooMany, halves, curve, thing)

    def test_no_curve_goes_ahead_of_all(self):
        for curve in NO_CURVES:
            for thing in [(0, 1, 2), (0, 1, 2, 3)] + THINGS:
                assert_refused(self, NoCurve, halves, curve, thing)


class TurnedTest(unittest.TestCase):

    def check(self, curve, cover, knot, due, turned, back):
        if due is None:
            assert_refused(self, NoTurn, turned, curve, cover, knot)
            return
        told = turned(curve, cover, knot)
        assert_told(self, due, told)
        self.assertIn(told, COVERS[curve])
        self.assertIs(True, is_cover(told, curve))
        assert_told(self, cover, back(curve, told, knot))

    def test_all_covers_at_all_knots(self):
        for curve, covers in COVERS.items():
            for cover in covers:
                for knot in knots_of(curve):
                    self.check(curve, cover, knot, due_up(cover, knot), turned_up, turned_down)
                    self.check(curve, cover, knot, due_down(cover, knot), turned_down, turned_up)

    def test_by_hand(self):
        assert_told(self, ((0, 2),), turned_up((3, 1), ((0, 1), (1, 2)), (0, 1, 2)))
        assert_told(self, ((0, 1), (1, 2)), turned_down((3, 1), ((0, 2),), (0, 1, 2)))
        assert_told(self, ((0, 1, 3), (0, 3, 4), (1, 2, 3)), turned_up((5, 2), lowest((5, 2)), (0, 1, 2, 3)))
        assert_told(self, lowest((5, 2)), turned_down((5, 2), ((0, 1, 3), (0, 3, 4), (1, 2, 3)), (0, 1, 2, 3)))
        assert_refused(self, NoTurn, turned_up, (5, 2), ((0, 1, 3), (0, 3, 4), (1, 2, 3)), (0, 1, 2, 3))
        assert_refused(self, NoTurn, turned_down, (5, 2), lowest((5, 2)), (0, 1, 2, 3))

    def test_some_but_not_all_cells_that_should_go(self):
        # (0, 1, 2) is in the cover, (0, 2, 4) is not.
        assert_refused(self, NoTurn, turned_up, (5, 2), lowest((5, 2)), (0, 1, 2, 4))
        assert_refused(self, NoTurn, turned_down, (5, 2), highest((5, 2)), (0, 1, 2, 3))

    def test_what_comes_is_among_all_covers(self):
        for curve in KNOTTED:
            every = all_covers(curve)
            for cover in every:
                for knot in ups(curve, cover):
                    self.assertIn(turned_up(curve, cover, knot), every)
                for knot in downs(curve, cover):
                    self.assertIn(turned_down(curve, cover, knot), every)

    def test_what_is_no_knot(self):
        for curve in SMALL_CURVES:
            cover = COVERS[curve][0]
            for thing in no_knots(curve):
                assert_refused(self, NoLot, turned_up, curve, cover, thing)
                assert_refused(self, NoLot, turned_down, curve, cover, thing)


class UpsAndDownsTest(unittest.TestCase):

    def test_against_its_own_words(self):
        for curve, covers in COVERS.items():
            for cover in covers:
                assert_told(self, [knot for knot in knots_of(curve) if due_up(cover, knot)], ups(curve, cover))
                assert_told(self, [knot for knot in knots_of(curve) if due_down(cover, knot)], downs(curve, cover))

    def test_by_hand(self):
        assert_told(self, [(0, 1, 2, 3), (0, 2, 3, 4)], ups((5, 2), lowest((5, 2))))
        assert_told(self, [], downs((5, 2), lowest((5, 2))))
        assert_told(self, [], ups((5, 2), highest((5, 2))))
        assert_told(self, [(0, 1, 2, 4), (1, 2, 3, 4)], downs((5, 2), highest((5, 2))))
        assert_told(self, [], ups((5, 4), ((0, 1, 2, 3, 4),)))
        assert_told(self, [], downs((5, 4), ((0, 1, 2, 3, 4),)))

    def test_just_there_it_can_be_turned(self):
        for curve, covers in COVERS.items():
            for cover in covers:
                for knot in knots_of(curve):
                    if knot not in ups(curve, cover):
                        assert_refused(self, NoTurn, turned_up, curve, cover, knot)
                    if knot not in downs(curve, cover):
                        assert_refused(self, NoTurn, turned_down, curve, cover, knot)

    def test_none_but_the_highest_and_the_lowest_have_none(self):
        for curve, covers in COVERS.items():
            assert_told(self, [highest(curve)], [cover for cover in covers if ups(curve, cover) == []])
            assert_told(self, [lowest(curve)], [cover for cover in covers if downs(curve, cover) == []])

    def test_rising_lists_the_askers_own(self):
        for curve in KNOTTED:
            for cover in COVERS[curve][:4] + COVERS[curve][-2:]:
                for function in [ups, downs]:
                    told = function(curve, cover)
                    self.assertEqual(sorted(set(told)), told)
                    assert_own_list(self, function, curve, cover)


class WhichGoesFirstTest(unittest.TestCase):

    ASKED_OF_ONE = [ups, downs, way_up]
    ASKED_OF_A_KNOT = [turned_up, turned_down]

    def test_no_curve_ahead_of_all(self):
        for curve in NO_CURVES:
            for thing in [((0, 1),), ((0, 1, 2),)] + THINGS:
                for function in self.ASKED_OF_ONE:
                    assert_refused(self, NoCurve, function, curve, thing)
                for function in self.ASKED_OF_A_KNOT + [steps_between]:
                    assert_refused(self, NoCurve, function, curve, thing, thing)
                    assert_refused(self, NoCurve, function, curve, ((0, 1),), thing)
                    assert_refused(self, NoCurve, function, curve, thing, ((0, 1),))

    def test_then_too_many(self):
        for curve in GREAT_CURVES:
            cell = tuple(range(curve[1] + 1))
            for thing in [(cell,), cell, cell + (curve[1] + 1,)] + THINGS:
                for function in self.ASKED_OF_ONE:
                    assert_refused(self, TooMany, function, curve, thing)
                for function in self.ASKED_OF_A_KNOT + [steps_between]:
                    assert_refused(self, TooMany, function, curve, thing, thing)
                    assert_refused(self, TooMany, function, curve, (cell,), thing)
                    assert_refused(self, TooMany, function, curve, thing, (cell,))

    def test_then_no_cover(self):
        for curve in SMALL_CURVES:
            for thing in no_covers(curve):
                for function in self.ASKED_OF_ONE:
                    assert_refused(self, NoCover, function, curve, thing)
                # With a right knot, with what is none, and with one at which nothing could be turned.
                for knot in knots_of(curve)[:1] + knots_of(curve)[-1:] + [None, (), [0, 1, 2], "012"]:
                    for function in self.ASKED_OF_A_KNOT:
                        assert_refused(self, NoCover, function, curve, thing, knot)

    def test_then_no_lot_then_no_turn(self):
        for curve in KNOTTED:
            knot = knots_of(curve)[0]
            for thing in [knot[:-1], list(knot), knot[::-1], None, True, "012", ()]:
                # These covers can't be turned so at any knot.
                assert_refused(self, NoLot, turned_up, curve, highest(curve), thing)
                assert_refused(self, NoLot, turned_down, curve, lowest(curve), thing)
            for knot in knots_of(curve):
                assert_refused(self, NoTurn, turned_up, curve, highest(curve), knot)
                assert_refused(self, NoTurn, turned_down, curve, lowest(curve), knot)


class WayUpTest(unittest.TestCase):

    def test_followed_turn_by_turn_to_the_highest(self):
        for curve, covers in COVERS.items():
            for cover in covers:
                now = cover
                way = way_up(curve, cover)
                self.assertIs(list, type(way))
                for knot in way:
                    assert_told(self, knot, tuple(knot))
                    now = due_up(now, knot)
                    self.assertIsNotNone(now, (curve, cover, way))
                assert_told(self, highest(curve), now)

    def test_by_the_programs_own_turns(self):
        for curve, covers in COVERS.items():
            for cover in covers:
                now = cover
                for knot in way_up(curve, cover):
                    now = turned_up(curve, now, knot)
                assert_told(self, highest(curve), now)

    def test_none_of_the_highest_some_of_all_others(self):
        for curve, covers in COVERS.items():
            for cover in covers:
                self.assertEqual(cover == highest(curve), way_up(curve, cover) == [])
            assert_told(self, [], way_up(curve, highest(curve)))

    def test_the_list_is_the_askers_own(self):
        for curve in KNOTTED:
            for cover in [lowest(curve), highest(curve)]:
                assert_own_list(self, way_up, curve, cover)


def neighbours(curve, cover):
    turned = [turn(cover, knot) for knot in knots_of(curve) for turn in (due_up, due_down)]
    return [other for other in turned if other is not None]


def due_steps(curve):
    """By how few turns any cover becomes any other: shortened by way of each cover between."""
    covers = COVERS[curve]
    far = len(covers)
    steps = {(one, other): far for one in covers for other in covers}
    for one in covers:
        steps[one, one] = 0
        for other in neighbours(curve, one):
            steps[one, other] = 1
    for middle in covers:
        for one in covers:
            for other in covers:
                steps[one, other] = min(steps[one, other], steps[one, middle] + steps[middle, other])
    return steps


class StepsBetweenTest(unittest.TestCase):

    def test_any_two_covers(self):
        for curve in SMALL_CURVES:
            for (one, other), due in due_steps(curve).items():
                assert_told(self, due, steps_between(curve, one, other))

    def test_nought_and_the_same_both_ways(self):
        for curve, covers in COVERS.items():
            for one in covers:
                assert_told(self, 0, steps_between(curve, one, one))
                for other in covers[::3]:
                    self.assertEqual(steps_between(curve, one, other), steps_between(curve, other, one))
                    self.assertEqual(one == other, steps_between(curve, one, other) == 0)

    def test_by_hand(self):
        assert_told(self, 5, steps_between((7, 1), lowest((7, 1)), highest((7, 1))))
        assert_told(self, 1, steps_between((4, 2), lowest((4, 2)), highest((4, 2))))
        # Five covers in a ring of two ways up, one of two turns and one of three.
        assert_told(self, 2, steps_between((5, 2), lowest((5, 2)), highest((5, 2))))
        # Up and down both: neither is above the other one.
        one, other = ((0, 1, 3), (0, 3, 4), (1, 2, 3)), ((0, 1, 2), (0, 2, 4), (2, 3, 4))
        assert_told(self, 2, steps_between((5, 2), one, other))
        # Seven covers in a ring of two ways up, one of three turns and one of four.
        assert_told(self, 3, steps_between((7, 4), lowest((7, 4)), highest((7, 4))))
        assert_told(self, 3, steps_between((7, 4), highest((7, 4)), lowest((7, 4))))

    def test_no_longer_than_the_way_up(self):
        for curve, covers in COVERS.items():
            for cover in covers:
                self.assertLessEqual(steps_between(curve, cover, highest(curve)), len(way_up(curve, cover)))

    def test_what_is_no_cover_on_either_side(self):
        for curve in SMALL_CURVES:
            cover = COVERS[curve][-1]
            for thing in no_covers(curve):
                assert_refused(self, NoCover, steps_between, curve, thing, cover)
                assert_refused(self, NoCover, steps_between, curve, cover, thing)
                assert_refused(self, NoCover, steps_between, curve, thing, thing)


if __name__ == "__main__":
    unittest.main()
