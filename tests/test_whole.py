"""[6]: what the points tell together. Each is told by one part of the program and held against another one.

What the points [34], [42], [53], [62], [63], [72], [81], [91] and [93] say follows is tested beside each of them too,
by definitions written out in the tests; here the parts of the program are held against one another, for all curves.
"""

import unittest

from curvefaces.counts import counts, faces, growth
from curvefaces.covers import all_covers, do_cross, highest, is_cover, lowest
from curvefaces.curves import blocks, is_face, is_pane, odd_inner
from curvefaces.most import first_above, missing, reach
from curvefaces.moved import at_corner, does_keep, moved_on, named, turned_about
from curvefaces.panes import beyond, first_pane, panes, panes_at, panes_many
from curvefaces.sides import high_panes, is_low, low_panes, sides_many
from curvefaces.texts import read, show
from curvefaces.triangles import cut_at, cut_by, cuts_many, ears, is_cut, number_of
from curvefaces.turns import downs, halves, steps_between, turned_down, turned_up, ups, way_up
from tests.support import CURVES, MANIES, SMALL_CURVES, all_lots, assert_told


class GapsAndPanesTest(unittest.TestCase):

    def test_what_gaps_tell_of_faces_is_what_panes_tell(self):
        for curve in CURVES:
            deep = curve[1]
            every = panes(curve)
            for lot in all_lots(curve):
                by_panes = any(set(lot) <= set(pane) for pane in every)
                by_gaps = len(lot) <= deep and odd_inner(curve, lot) <= deep - len(lot)
                self.assertEqual(by_panes, by_gaps, (curve, lot))
                self.assertIs(by_panes, is_face(lot, curve))
                self.assertIs(by_panes, panes_at(curve, lot) != [])
                self.assertIs(len(lot) == deep and odd_inner(curve, lot) == 0, is_pane(lot, curve))
                self.assertEqual(lot, sum(blocks(curve, lot), ()))

    def test_the_first_pane_and_the_one_beyond(self):
        for curve in CURVES:
            for size in range(curve[1] + 1):
                for face in faces(curve, size):
                    self.assertEqual(panes_at(curve, face)[0], first_pane(curve, face))
            for pane in panes(curve):
                for corner in pane:
                    rest = tuple(other for other in pane if other != corner)
                    self.assertEqual(sorted([pane, beyond(curve, pane, corner)]), panes_at(curve, rest))


class CountedTest(unittest.TestCase):

    def test_each_face_is_counted_once_by_lists_and_by_rules_alike(self):
        for curve in CURVES:
            many, deep = curve
            listed = [faces(curve, size) for size in range(deep + 1)]
            self.assertEqual(sum(len(some) for some in listed), len({face for some in listed for face in some}))
            assert_told(self, counts(many, deep), tuple(len(some) for some in listed))
            self.assertEqual([lot for lot in all_lots(curve) if is_face(lot, curve)], sorted(sum(listed, [])))
            self.assertEqual(panes_many(many, deep), len(panes(curve)))
            self.assertEqual(sides_many(many, deep), (len(low_panes(curve)), len(high_panes(curve))))

    def test_what_follows_for_the_numbers_of_faces(self):
        for deep in range(1, 7):
            for many in list(range(deep + 1, 10)) + MANIES:
                told = counts(many, deep)
                self.assertEqual(panes_many(many, deep), told[deep])
                self.assertEqual(panes_many(many, deep), sum(growth(many, deep)))
                self.assertEqual(panes_many(many, deep), sum(sides_many(many, deep)))
                self.assertEqual(0 if deep % 2 == 0 else 2, sum(told[1::2]) - sum(told[2::2]))
                if deep > 1:
                    self.assertEqual(many, told[1])
                    self.assertIsNone(first_above(told))

    def test_the_greatest_faces_are_the_panes_and_each_corner_is_a_face(self):
        for curve in CURVES:
            assert_told(self, panes(curve), faces(curve, curve[1]))
            if curve[1] > 1:
                assert_told(self, [(corner,) for corner in range(curve[0])], faces(curve, 1))

    def test_reach_and_missing_lots(self):
        for curve in CURVES:
            many, deep = curve
            self.assertEqual(deep // 2 if many > deep + 1 else deep, reach(curve))
            gone = [set(lot) for lot in missing(curve)]
            for lot in all_lots(curve):
                clean = len(lot) <= deep and not any(some <= set(lot) for some in gone)
                self.assertIs(clean, is_face(lot, curve), (curve, lot))
                if len(lot) <= reach(curve):
                    self.assertIs(True, is_face(lot, curve), (curve, lot))


class SidesTest(unittest.TestCase):

    def test_behind_each_corner_that_is_out(self):
        for curve in CURVES:
            for pane in panes(curve):
                for out in [corner for corner in range(curve[0]) if corner not in pane]:
                    even = len([corner for corner in pane if corner > out]) % 2 == 0
                    self.assertIs(even, is_low(curve, pane), (curve, pane, out))

    def test_the_first_corner_and_the_last_one(self):
        for curve in CURVES:
            many, deep = curve
            if deep % 2 == 1:
                self.assertTrue(all(pane[0] == 0 for pane in low_panes(curve)))
                self.assertEqual(len(low_panes(curve)), len(high_panes(curve)))
            else:
                self.assertTrue(all((pane[0], pane[-1]) == (0, many - 1) for pane in high_panes(curve)))


class CoversAndTurnsTest(unittest.TestCase):

    def test_each_cover_is_come_to_by_turns_and_what_turns_make_is_a_cover(self):
        for curve in SMALL_CURVES:
            for turn, knots, start in [(turned_up, ups, lowest(curve)), (turned_down, downs, highest(curve))]:
                found = {start}
                fresh = [start]
                while fresh:
                    cover = fresh.pop()
                    for other in [turn(curve, cover, knot) for knot in knots(curve, cover)]:
                        self.assertIs(True, is_cover(other, curve))
                        if other not in found:
                            found.add(other)
                            fresh.append(other)
                assert_told(self, all_covers(curve), sorted(found))

    def test_the_lowest_and_the_highest(self):
        for curve in SMALL_CURVES:
            many, deep = curve
            every = all_covers(curve)
            self.assertIs(True, is_cover(lowest(curve), curve))
            self.assertIs(True, is_cover(highest(curve), curve))
            if many > deep + 1:
                assert_told(self, tuple(low_panes((many, deep + 1))), lowest(curve))
                assert_told(self, tuple(high_panes((many, deep + 1))), highest(curve))
            assert_told(self, [highest(curve)], [cover for cover in every if not ups(curve, cover)])
            assert_told(self, [lowest(curve)], [cover for cover in every if not downs(curve, cover)])

    def test_cells_of_covers_and_of_knots(self):
        for curve in SMALL_CURVES:
            for cover in all_covers(curve):
                self.assertFalse(any(do_cross(curve, one, other) for one in cover for other in cover))
                for knot in ups(curve, cover):
                    low, high = halves(curve, knot)
                    self.assertTrue(set(low) <= set(cover))
                    self.assertEqual(set(cover) - set(low) | set(high), set(turned_up(curve, cover, knot)))

    def test_turned_down_at_the_knot_it_is_as_it_was(self):
        for curve in SMALL_CURVES:
            for cover in all_covers(curve):
                for knot in ups(curve, cover):
                    other = turned_up(curve, cover, knot)
                    self.assertIn(knot, downs(curve, other))
                    assert_told(self, cover, turned_down(curve, other, knot))
                    self.assertEqual(1, steps_between(curve, cover, other))
                self.assertLessEqual(steps_between(curve, cover, highest(curve)), len(way_up(curve, cover)))


class NumberedTest(unittest.TestCase):

    def test_what_is_numbered_comes_back_by_its_number(self):
        for many in range(2, 10):
            found = []
            for number in range(cuts_many(many)):
                cut = cut_at(many, number)
                found.append(cut)
                self.assertIs(True, is_cut(cut, many))
                assert_told(self, number, number_of(many, cut))
                assert_told(self, cut, cut_by(ears(many, cut)))
            self.assertEqual(cuts_many(many), len(set(found)))
            if 3 <= many <= 7:
                assert_told(self, all_covers((many, 2)), sorted(found))

    def test_what_is_written_is_read_to_the_same(self):
        for curve in SMALL_CURVES:
            for cover in all_covers(curve):
                assert_told(self, (curve, cover), read(show(curve, cover)))


class MovedTest(unittest.TestCase):

    def test_panes_turned_about_and_moved_on(self):
        for curve in CURVES:
            even = curve[1] % 2 == 0
            for pane in panes(curve):
                about = turned_about(curve, pane)
                self.assertIs(True, is_pane(about, curve))
                self.assertIs(is_low(curve, pane) == even, is_low(curve, about))
                if even:
                    self.assertIs(True, is_pane(moved_on(curve, pane), curve))

    def test_faces_are_named_as_faces_by_orders_that_keep(self):
        for curve in CURVES:
            plain = tuple(range(curve[0]))
            for order in [plain, plain[::-1], plain[1:] + plain[:1]]:
                if does_keep(order, curve):
                    for lot in all_lots(curve)[::3]:
                        self.assertIs(is_face(lot, curve), is_face(named(curve, lot, order), curve))

    def test_at_the_first_corner_and_the_last_one(self):
        for many, deep in CURVES:
            if deep > 1:
                assert_told(self, panes((many - 1, deep - 1)), at_corner((many, deep), 0))
                assert_told(self, panes((many - 1, deep - 1)), at_corner((many, deep), many - 1))
            for corner in range(many):
                self.assertEqual(len(panes_at((many, deep), (corner,))), len(at_corner((many, deep), corner)))


if __name__ == "__main__":
    unittest.main()
