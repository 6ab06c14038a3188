"""[31], [32], [33], [34]: faces listed by their size, and counted."""

import unittest
from math import comb

from curvefaces.counts import counts, faces, growth
from curvefaces.errors import NoCurve, NoNumber
from curvefaces.panes import panes, panes_many
from tests.support import (CURVES, GREAT, MANIES, NO_CURVES, assert_many_deep_refused, assert_own_list, assert_refused,
                           assert_told, plain_faces)

NO_SIZES = [None, True, False, "", "0", "2", "two", (), (0,), (2,), (0, 1), [], [0], [2], {}, {0: 1}, GREAT, -GREAT, -1]


def due_faces(curve, size):
    return sorted(face for face in plain_faces(curve) if len(face) == size)


def due_growth(many, deep):
    half = [comb(many - deep - 1 + i, i) for i in range(deep // 2 + 1)]
    return tuple(half[i] if i < len(half) else half[deep - i] for i in range(deep + 1))


def due_counts(many, deep):
    """What each corner, each pane's edge and the sums of [34] tell, without the growth."""
    top = {1: 2, 2: many, 3: 2 * (many - 2), 4: many * (many - 3) // 2, 5: (many - 3) * (many - 4),
           6: many * (many - 4) * (many - 5) // 6}[deep]
    # Each pane has deep faces with one corner fewer, and each of these is in two panes.
    edge = deep * top // 2
    first = comb(many, 2)
    rows = {
        1: (1, top), 2: (1, many, top), 3: (1, many, edge, top), 4: (1, many, first, edge, top),
        5: (1, many, first, 2 - many + first + edge - top, edge, top),
        6: (1, many, first, comb(many, 3), many - first + comb(many, 3) + edge - top, edge, top),
    }
    return rows[deep]


class FacesTest(unittest.TestCase):

    def test_all_sizes_of_all_curves(self):
        for curve in CURVES:
            for size in range(curve[1] + 1):
                assert_told(self, due_faces(curve, size), faces(curve, size))

    def test_by_hand(self):
        assert_told(self, [()], faces((6, 3), 0))
        assert_told(self, [(0,), (8,)], faces((9, 1), 1))
        assert_told(self, [(0,), (1,), (2,), (3,)], faces((4, 2), 1))
        assert_told(self, [(0, 1), (0, 3), (1, 2), (2, 3)], faces((4, 2), 2))
        assert_told(self, [(0, 1), (0, 2), (0, 3), (0, 4), (1, 2), (1, 4), (2, 3), (2, 4), (3, 4)], faces((5, 3), 2))

    def test_a_rising_list_of_tuples(self):
        for curve in CURVES:
            for size in range(curve[1] + 1):
                told = faces(curve, size)
                self.assertIs(list, type(told))
                self.assertTrue(all(one < other for one, other in zip(told, told[1:])))
                self.assertTrue(all(type(face) is tuple and len(face) == size for face in told))

    def test_the_greatest_are_the_panes(self):
        for curve in CURVES:
            assert_told(self, panes(curve), faces(curve, curve[1]))

    def test_the_list_is_the_askers_own(self):
        for curve in [(2, 1), (6, 3), (9, 4)]:
            for size in range(curve[1] + 1):
                assert_own_list(self, faces, curve, size)

    def test_another_size_asked_between(self):
        for curve in [(6, 3), (9, 4), (7, 6)]:
            for size in range(curve[1] + 1):
                for other in range(curve[1] + 1):
                    told = faces(curve, size)
                    faces(curve, other).clear()
                    panes(curve).clear()
                    assert_told(self, due_faces(curve, size), told)
                    assert_told(self, told, faces(curve, size))

    def test_sizes_that_are_none(self):
        for curve in CURVES:
            for size in NO_SIZES + [curve[1] + 1, curve[0], curve[0] + 1]:
                assert_refused(self, NoNumber, faces, curve, size)

    def test_no_curve_goes_ahead(self):
        for curve in NO_CURVES:
            for size in [0, 1, 2] + NO_SIZES:
                assert_refused(self, NoCurve, faces, curve, size)


class GrowthTest(unittest.TestCase):

    def test_by_its_words(self):
        for deep in range(1, 7):
            for many in list(range(deep + 1, 20)) + MANIES:
                told = growth(many, deep)
                assert_told(self, due_growth(many, deep), told)
                self.assertEqual(told, told[::-1])
                self.assertEqual(1, told[0])

    def test_by_hand(self):
        assert_told(self, (1, 1), growth(2, 1))
        assert_told(self, (1, 1), growth(10 ** 9, 1))
        assert_told(self, (1, 3, 1), growth(5, 2))
        assert_told(self, (1, 2, 2, 1), growth(5, 3))
        assert_told(self, (1, 4, 10, 4, 1), growth(8, 4))
        assert_told(self, (1, 1, 1, 1, 1, 1, 1), growth(7, 6))
        assert_told(self, (1, 2, 3, 4, 3, 2, 1), growth(8, 6))

    def test_refused(self):
        assert_many_deep_refused(self, NoNumber, growth)


class CountsTest(unittest.TestCase):

    def test_all_curves_against_lists(self):
        for curve in CURVES:
            many, deep = curve
            assert_told(self, tuple(len(due_faces(curve, size)) for size in range(deep + 1)), counts(many, deep))
            assert_told(self, tuple(len(faces(curve, size)) for size in range(deep + 1)), counts(many, deep))

    def test_great_numbers(self):
        for deep in range(1, 7):
            for many in list(range(deep + 1, 10)) + MANIES:
                assert_told(self, due_counts(many, deep), counts(many, deep))

    def test_by_their_words(self):
        for deep in range(1, 7):
            for many in MANIES:
                grown = due_growth(many, deep)
                due = tuple(sum(grown[i] * comb(deep - i, size - i) for i in range(size + 1)) for size in range(deep + 1))
                assert_told(self, due, counts(many, deep))

    def test_by_hand(self):
        assert_told(self, (1, 2), counts(2, 1))
        assert_told(self, (1, 2), counts(10 ** 9, 1))
        assert_told(self, (1, 5, 5), counts(5, 2))
        assert_told(self, (1, 6, 12, 8), counts(6, 3))
        assert_told(self, (1, 8, 28, 40, 20), counts(8, 4))
        assert_told(self, (1, 7, 21, 35, 35, 21, 7), counts(7, 6))

    def test_what_follows(self):
        for deep in range(1, 7):
            for many in list(range(deep + 1, 10)) + MANIES:
                told = counts(many, deep)
                self.assertEqual(deep + 1, len(told))
                self.assertEqual(1, told[0])
                self.assertEqual(many if deep > 1 else 2, told[1])
                self.assertEqual(panes_many(many, deep), told[deep])
                self.assertEqual(0 if deep % 2 == 0 else 2, sum(told[1::2]) - sum(told[2::2]))

    def test_each_corner_is_a_face_where_deep_is_above_1(self):
        for curve in CURVES:
            if curve[1] > 1:
                assert_told(self, [(corner,) for corner in range(curve[0])], faces(curve, 1))

    def test_refused(self):
        assert_many_deep_refused(self, NoNumber, counts)


if __name__ == "__main__":
    unittest.main()
