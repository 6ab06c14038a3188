"""[61], [62], [63]: cells that cross, covers, the lowest and the highest one."""

import unittest
from itertools import combinations

from curvefaces.covers import all_covers, do_cross, highest, is_cover, lowest
from curvefaces.errors import NoCell, NoCurve, TooMany
from curvefaces.sides import high_panes, low_panes
from tests.support import (COVERS, GREAT, GREAT_CURVES, NO_CURVES, ODD_THINGS, SMALL_CURVES, all_lots, assert_own_list,
                           assert_refused, assert_told, plain_cross)


def cells_of(curve):
    return list(combinations(range(curve[0]), curve[1] + 1))


def as_cover(cells):
    return tuple(sorted(cells))


class DoCrossTest(unittest.TestCase):

    def test_all_two_cells(self):
        for curve in SMALL_CURVES:
            for one in cells_of(curve):
                for other in cells_of(curve):
                    self.assertIs(plain_cross(one, other, curve[1]), do_cross(curve, one, other), (curve, one, other))

    def test_by_hand(self):
        self.assertIs(True, do_cross((3, 1), (0, 2), (1, 2)))
        self.assertIs(False, do_cross((3, 1), (0, 1), (1, 2)))
        self.assertIs(True, do_cross((4, 2), (0, 1, 2), (0, 1, 3)))
        self.assertIs(False, do_cross((4, 2), (0, 1, 2), (0, 2, 3)))
        self.assertIs(True, do_cross((5, 3), (0, 1, 2, 4), (0, 1, 3, 4)))
        self.assertIs(False, do_cross((5, 3), (0, 1, 2, 3), (0, 1, 2, 3)))
        self.assertIs(True, do_cross((7, 4), (0, 2, 4, 5, 6), (0, 1, 3, 5, 6)))

    def test_no_cell(self):
        for curve in [(2, 1), (5, 2), (6, 3), (7, 4)]:
            cell = tuple(range(curve[1] + 1))
            wrong = [list(cell), cell[::-1], cell[:-1], cell[:-1] + (curve[0],), (-1,) + cell[:-1], cell[:-1] + (GREAT,),
                     (False,) + cell[1:], (0, True) + cell[2:], cell[:-1] + (None,), cell[:-1] + (str(cell[-1]),),
                     cell[:-1] + (cell[-1:],), cell[:-1] + cell[-2:-1], (cell,), (cell, cell), str(cell), {cell: cell}, ()]
            odd = [thing for thing in ODD_THINGS if thing not in cells_of(curve)]
            for thing in wrong + odd + [lot for lot in all_lots(curve) if len(lot) != curve[1] + 1]:
                assert_refused(self, NoCell, do_cross, curve, thing, cell)
                assert_refused(self, NoCell, do_cross, curve, cell, thing)
                assert_refused(self, NoCell, do_cross, curve, thing, thing)

    def test_what_is_true_or_false_is_no_corner(self):
        for thing in [(False, 1), (0, True), (False, True)]:
            assert_refused(self, NoCell, do_cross, (2, 1), thing, (0, 1))
            assert_refused(self, NoCell, do_cross, (2, 1), (0, 1), thing)


class RefusedCurvesTest(unittest.TestCase):

    def test_too_many_ahead_of_all_but_no_curve(self):
        for curve in GREAT_CURVES:
            cell = tuple(range(curve[1] + 1))
            for thing in [cell, (cell,), None, True, (), [0], "0", (1, 0), GREAT]:
                assert_refused(self, TooMany, do_cross, curve, thing, cell)
                assert_refused(self, TooMany, do_cross, curve, cell, thing)
                assert_refused(self, TooMany, do_cross, curve, thing, thing)
                assert_refused(self, TooMany, is_cover, thing, curve)
            for function in [all_covers, lowest, highest]:
                assert_refused(self, TooMany, function, curve)

    def test_the_greatest_that_are_taken(self):
        for curve in [(7, 1), (7, 2), (7, 3), (7, 4), (5, 4)]:
            self.assertIs(True, is_cover(lowest(curve), curve))
        for curve in [(8, 1), (8, 2), (8, 3), (8, 4), (6, 5), (7, 5), (7, 6), (9, 6)]:
            self.assertIn(curve, GREAT_CURVES)

    def test_no_curve_goes_ahead(self):
        for curve in NO_CURVES:
            for thing in [(0, 1), ((0, 1),), None, True, (), [0], GREAT]:
                assert_refused(self, NoCurve, do_cross, curve, thing, (0, 1))
                assert_refused(self, NoCurve, do_cross, curve, (0, 1), thing)
                assert_refused(self, NoCurve, do_cross, curve, thing, thing)
                assert_refused(self, NoCurve, is_cover, thing, curve)
            for function in [all_covers, lowest, highest]:
                assert_refused(self, NoCurve, function, curve)


class IsCoverTest(unittest.TestCase):

    def check(self, due, thing, curve):
        self.assertIs(due, is_cover(thing, curve), (thing, curve))

    def test_covers(self):
        for curve, covers in COVERS.items():
            for cover in covers:
                self.check(True, cover, curve)

    def test_by_hand(self):
        self.check(True, ((0, 1),), (2, 1))
        self.check(True, ((0, 1), (1, 3)), (4, 1))
        self.check(False, ((0, 1), (2, 3)), (4, 1))
        self.check(False, ((0, 2), (1, 3)), (4, 1))
        self.check(True, ((0, 1, 2), (0, 2, 3)), (4, 2))
        self.check(False, ((0, 1, 2), (1, 2, 3)), (4, 2))
        self.check(True, ((0, 1, 2, 4), (0, 2, 3, 4)), (5, 3))
        self.check(False, ((0, 1, 2, 3), (0, 1, 3, 4)), (5, 3))
        self.check(True, ((0, 1, 2, 3), (0, 1, 3, 4), (1, 2, 3, 4)), (5, 3))

    def test_a_cell_left_out_put_in_or_exchanged(self):
        for curve, covers in COVERS.items():
            for cover in covers[:12]:
                others = [cell for cell in cells_of(curve) if cell not in cover]
                for cell in cover:
                    rest = [one for one in cover if one != cell]
                    self.check(False, as_cover(rest), curve)
                    for other in others:
                        thing = as_cover(rest + [other])
                        self.check(thing in covers, thing, curve)
                for other in others:
                    self.check(False, as_cover(cover + (other,)), curve)

    def test_a_cell_twice(self):
        for curve, covers in COVERS.items():
            for cover in covers:
                for cell in cover:
                    self.check(False, as_cover(cover + (cell,)), curve)
                    self.check(False, cover + (cell,), curve)

    def test_another_order(self):
        for curve, covers in COVERS.items():
            for cover in covers:
                if len(cover) > 1:
                    self.check(False, cover[::-1], curve)
                    self.check(False, cover[1:] + cover[:1], curve)
                    self.check(False, (cover[1], cover[0]) + cover[2:], curve)

    def test_other_kinds_of_the_same(self):
        for curve, covers in COVERS.items():
            for cover in covers:
                for thing in [list(cover), {cell: True for cell in cover}, str(cover), (cover,), [cover], cover + ((),),
                              ((),) + cover, cover + (None,), cover + (list(cover[-1]),), cover + ("",), cover[0]]:
                    self.check(False, thing, curve)

    def test_one_thing_of_a_cell_otherwise(self):
        kinds = [lambda corner: str(corner), lambda corner: (corner,), lambda corner: [corner], lambda corner: None,
                 lambda corner: corner == 1, lambda corner: GREAT, lambda corner: -1, lambda corner: {corner: corner}]
        for curve, covers in COVERS.items():
            for cover in covers[:3] + covers[-1:]:
                for at, cell in enumerate(cover):
                    self.check(False, cover[:at] + (list(cell),) + cover[at + 1:], curve)
                    self.check(False, cover[:at] + (cell[:-1],) + cover[at + 1:], curve)
                    self.check(False, cover[:at] + (cell[::-1],) + cover[at + 1:], curve)
                    for place in range(len(cell)):
                        for kind in kinds:
                            odd = cell[:place] + (kind(cell[place]),) + cell[place + 1:]
                            self.check(False, cover[:at] + (odd,) + cover[at + 1:], curve)

    def test_one_corner_of_a_cell_otherwise(self):
        for curve, covers in COVERS.items():
            for cover in covers[:3] + covers[-1:]:
                for at, cell in enumerate(cover):
                    for place in range(len(cell)):
                        for corner in [corner for corner in range(curve[0] + 1) if corner != cell[place]]:
                            odd = cell[:place] + (corner,) + cell[place + 1:]
                            thing = cover[:at] + (odd,) + cover[at + 1:]
                            self.check(thing in covers, thing, curve)

    def test_things_of_whatever_kind(self):
        for curve in SMALL_CURVES:
            for thing in ODD_THINGS + [(), ((),), curve, (curve,), tuple(cells_of(curve))]:
                if thing not in COVERS[curve]:
                    self.check(False, thing, curve)

    def test_covers_of_one_curve_asked_of_another(self):
        for curve, covers in COVERS.items():
            for other in SMALL_CURVES:
                if other != curve:
                    self.check(False, covers[0], other)
                    self.check(False, covers[-1], other)

    def test_cells_that_cross_though_each_lot_is_in_as_many_as_due(self):
        self.check(False, ((0, 2), (1, 2), (1, 3)), (4, 1))
        self.check(False, ((0, 3), (1, 2), (1, 4), (2, 3)), (5, 1))

    def test_all_sets_of_cells_of_few_corners(self):
        for curve in [curve for curve in SMALL_CURVES if curve[0] <= 5]:
            for size in range(len(cells_of(curve)) + 1):
                for cells in combinations(cells_of(curve), size):
                    self.check(cells in COVERS[curve], cells, curve)


class AllCoversTest(unittest.TestCase):

    def test_against_all_sets_of_cells(self):
        for curve, covers in COVERS.items():
            assert_told(self, covers, all_covers(curve))

    def test_how_many(self):
        due = {1: [1, 2, 4, 8, 16, 32], 2: [1, 2, 5, 14, 42], 3: [1, 2, 6, 25], 4: [1, 2, 7]}
        for deep, numbers in due.items():
            told = [len(all_covers((many, deep))) for many in range(deep + 1, 8)]
            self.assertEqual(numbers, told)

    def test_a_rising_list_each_of_them_a_cover(self):
        for curve in SMALL_CURVES:
            told = all_covers(curve)
            self.assertIs(list, type(told))
            self.assertTrue(all(one < other for one, other in zip(told, told[1:])))
            for cover in told:
                self.assertIs(True, is_cover(cover, curve))

    def test_the_list_is_the_askers_own(self):
        for curve in [(2, 1), (5, 2), (6, 3), (7, 4)]:
            assert_own_list(self, all_covers, curve)


class LowestAndHighestTest(unittest.TestCase):

    def test_against_the_curve_that_is_1_deeper(self):
        for many, deep in SMALL_CURVES:
            if many > deep + 1:
                assert_told(self, tuple(low_panes((many, deep + 1))), lowest((many, deep)))
                assert_told(self, tuple(high_panes((many, deep + 1))), highest((many, deep)))
                self.assertNotEqual(lowest((many, deep)), highest((many, deep)))

    def test_of_deep_and_1_corners_both_have_the_one_cell(self):
        for deep in range(1, 5):
            due = (tuple(range(deep + 1)),)
            assert_told(self, due, lowest((deep + 1, deep)))
            assert_told(self, due, highest((deep + 1, deep)))

    def test_by_hand(self):
        assert_told(self, ((0, 1), (1, 2), (2, 3)), lowest((4, 1)))
        assert_told(self, ((0, 3),), highest((4, 1)))
        assert_told(self, ((0, 1, 2), (0, 2, 3), (0, 3, 4)), lowest((5, 2)))
        assert_told(self, ((0, 1, 4), (1, 2, 4), (2, 3, 4)), highest((5, 2)))

    def test_each_is_a_cover_and_among_all(self):
        for curve in SMALL_CURVES:
            for cover in [lowest(curve), highest(curve)]:
                self.assertIs(True, is_cover(cover, curve))
                self.assertIn(cover, all_covers(curve))


if __name__ == "__main__":
    unittest.main()
