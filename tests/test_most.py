"""[41], [42], [43]: missing lots, the reach, counts that are above those of a curve."""

import unittest
from itertools import combinations

from curvefaces.counts import counts
from curvefaces.errors import NoCounts, NoCurve
from curvefaces.most import first_above, missing, reach
from tests.support import (CURVES, GREAT, NO_CURVES, ODD_THINGS, all_lots, assert_own_list, assert_refused, assert_told,
                           plain_faces)

WRONG_NUMBERS = [-1, -GREAT, True, False, None, "", "1", [], [5], (), (5,), {}, {5: 5}]


def changed(numbers, at, number):
    return numbers[:at] + (number,) + numbers[at + 1:]


class MissingTest(unittest.TestCase):

    def test_by_its_words(self):
        for curve in CURVES:
            known = plain_faces(curve)
            due = [lot for lot in all_lots(curve) if lot not in known
                   and all(part in known for part in combinations(lot, len(lot) - 1))]
            assert_told(self, due, missing(curve))

    def test_of_deep_and_1_corners_all_are_missing_as_one(self):
        for deep in range(1, 7):
            assert_told(self, [tuple(range(deep + 1))], missing((deep + 1, deep)))

    def test_by_hand(self):
        assert_told(self, [(0, 4), (1,), (2,), (3,)], missing((5, 1)))
        assert_told(self, [(0, 2), (0, 3), (1, 3), (1, 4), (2, 4)], missing((5, 2)))
        assert_told(self, [(0, 2, 4), (1, 3)], missing((5, 3)))

    def test_a_lot_is_a_face_just_where_none_is_within_it(self):
        for curve in CURVES:
            known = plain_faces(curve)
            gone = [set(lot) for lot in missing(curve)]
            for lot in all_lots(curve):
                clean = not any(other <= set(lot) for other in gone)
                self.assertEqual(lot in known, clean and len(lot) <= curve[1], (curve, lot))

    def test_the_list_is_the_askers_own(self):
        for curve in [(2, 1), (6, 3), (9, 5)]:
            assert_own_list(self, missing, curve)

    def test_no_curve(self):
        for curve in NO_CURVES:
            assert_refused(self, NoCurve, missing, curve)


class ReachTest(unittest.TestCase):

    def test_by_its_words(self):
        for curve in CURVES:
            many, deep = curve
            known = plain_faces(curve)
            due = max(k for k in range(deep + 1) if all(lot in known for lot in combinations(range(many), k)))
            assert_told(self, due, reach(curve))

    def test_what_follows(self):
        for many, deep in CURVES:
            assert_told(self, deep // 2 if many > deep + 1 else deep, reach((many, deep)))

    def test_by_hand(self):
        for curve, due in [((2, 1), 1), ((3, 1), 0), ((9, 1), 0), ((5, 4), 4), ((6, 4), 2), ((9, 5), 2), ((7, 6), 6)]:
            assert_told(self, due, reach(curve))

    def test_no_curve(self):
        for curve in NO_CURVES:
            assert_refused(self, NoCurve, reach, curve)


class FirstAboveTest(unittest.TestCase):

    def due(self, numbers, most):
        return next((size for size in range(len(numbers)) if numbers[size] > most[size]), None)

    def test_counts_of_curves_and_one_number_otherwise(self):
        for many, deep in CURVES + [(10 ** 9, deep) for deep in range(2, 7)]:
            if deep == 1:
                continue
            most = counts(many, deep)
            assert_told(self, None, first_above(most))
            for at in [at for at in range(deep + 1) if at != 1]:
                assert_told(self, at, first_above(changed(most, at, most[at] + 1)))
                assert_told(self, at, first_above(changed(most, at, GREAT)))
                assert_told(self, None, first_above(changed(most, at, most[at] - 1)))
                assert_told(self, None, first_above(changed(most, at, 0)))

    def test_two_numbers_otherwise(self):
        for many, deep in CURVES + [(10 ** 9, deep) for deep in range(2, 7)]:
            if deep == 1:
                continue
            most = counts(many, deep)
            for one, other in combinations([at for at in range(deep + 1) if at != 1], 2):
                for more, fewer in [(1, 1), (1, -1), (-1, 1), (-1, -1)]:
                    numbers = changed(changed(most, one, most[one] + more), other, most[other] + fewer)
                    assert_told(self, self.due(numbers, most), first_above(numbers))

    def test_all_less(self):
        for deep in range(2, 7):
            for many in [deep + 1, 9, 10 ** 9, GREAT]:
                assert_told(self, None, first_above((0, many) + (0,) * (deep - 1)))
                assert_told(self, None, first_above((1, many) + (1,) * (deep - 1)))
                assert_told(self, 0, first_above((2, many) + (1,) * (deep - 1)))

    def test_the_number_of_corners_itself_otherwise(self):
        # With one corner fewer the others are too many, with one more they are not.
        assert_told(self, 2, first_above((1, 4, 5)))
        assert_told(self, None, first_above((1, 6, 5)))
        assert_told(self, 2, first_above((1, 7, 22, 28, 14)))
        assert_told(self, None, first_above((1, 8, 21, 28, 14)))

    def test_corners_of_up_to_thirty_figures(self):
        for many in [10 ** 9 + 1, 10 ** 15, GREAT, 10 ** 30 - 1]:
            tops = {2: many, 3: 2 * (many - 2), 4: many * (many - 3) // 2, 5: (many - 3) * (many - 4),
                    6: many * (many - 4) * (many - 5) // 6}
            for deep, top in tops.items():
                rest = (1, many) + (0,) * (deep - 2)
                assert_told(self, None, first_above(rest + (top,)))
                assert_told(self, deep, first_above(rest + (top + 1,)))
                assert_told(self, None, first_above(rest + (top - 1,)))
        for many in [10 ** 9 + 1, GREAT]:
            pairs = many * (many - 1) // 2
            assert_told(self, 2, first_above((1, many, pairs + 1, 0, 0)))
            assert_told(self, None, first_above((1, many, pairs, 0, 0)))
            assert_told(self, 2, first_above((1, many, 3 * many - 5, 0)))
            assert_told(self, None, first_above((1, many, 3 * many - 6, 2 * many - 4)))

    def test_counts_at_their_bounds(self):
        for size in range(3, 8):
            assert_told(self, None, first_above((1, size) + (0,) * (size - 2)))
            assert_told(self, None, first_above(counts(size, size - 1)))
            assert_told(self, None, first_above((0, 10 ** 30 - 1) + (0,) * (size - 2)))
            assert_told(self, 0, first_above((10 ** 30 - 1,) * size))

    def test_what_are_no_counts(self):
        for numbers in [(1, 5), (1,), (), (1, 9, 9, 9, 9, 9, 9, 9), (1, 8, 0, 0, 0, 0, 0, 0), [1, 5, 5], [1, 4, 6, 4],
                        "155", "1 5 5", {0: 1, 1: 5, 2: 5}, ((1, 5, 5),), (1, (5, 5)), None, True, 5, GREAT]:
            assert_refused(self, NoCounts, first_above, numbers)
        for thing in ODD_THINGS:
            assert_refused(self, NoCounts, first_above, thing)

    def test_a_wrong_number_at_any_place(self):
        for many, deep in [(3, 2), (9, 2), (6, 3), (9, 4), (9, 5), (7, 6), (9, 6)]:
            right = counts(many, deep)
            for at in range(deep + 1):
                for number in WRONG_NUMBERS:
                    assert_refused(self, NoCounts, first_above, changed(right, at, number))
            for number in range(-1, deep + 1):
                assert_refused(self, NoCounts, first_above, changed(right, 1, number))


if __name__ == "__main__":
    unittest.main()
