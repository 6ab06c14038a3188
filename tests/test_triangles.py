"""[81], [82], [83]: cuts told and counted, numbered, and found from their ears."""

import random
import unittest
from itertools import combinations, permutations, product
from math import comb

from curvefaces.covers import all_covers
from curvefaces.errors import NoCut, NoNumber
from curvefaces.triangles import cut_at, cut_by, cuts_many, ears, is_cut, number_of
from tests.support import (GREAT, NO_NUMBERS, ODD_THINGS, assert_refused, assert_told, lots_with_one_thing_otherwise,
                           otherwise, plain_cross, plain_is_covering, plain_panes)

NO_MANY = NO_NUMBERS + [1, 0, -1, -2, 31, 32, GREAT, -GREAT, "two", [2], (30,), {2: 2}, "30"]


def listed_cuts(low, high):
    """All cuts of the corners from low to high in the order of [82], by its words and those of [81]."""
    if high - low == 1:
        return [()]
    found = []
    for middle in range(low + 1, high):
        for ahead in listed_cuts(low, middle):
            for behind in listed_cuts(middle, high):
                found.append(tuple(sorted(ahead + behind + ((low, middle, high),))))
    return found


LISTED = {many: listed_cuts(0, many - 1) for many in range(2, 10)}


def is_listed_so(triangles, low, high):
    """Whether a rising tuple of triangles is a cut by the very words of [81], for many corners."""
    if high - low == 1:
        return triangles == ()
    for one in triangles:
        first, middle, last = one
        if (first, last) == (low, high):
            ahead = tuple(other for other in triangles if other[2] <= middle)
            behind = tuple(other for other in triangles if other[0] >= middle)
            fits = sorted(ahead + behind + (one,)) == list(triangles)
            if fits and is_listed_so(ahead, low, middle) and is_listed_so(behind, middle, high):
                return True
    return False


def drawn_triangles(draw, low, high):
    if high - low == 1:
        return []
    middle = draw.randrange(low + 1, high)
    return [(low, middle, high)] + drawn_triangles(draw, low, middle) + drawn_triangles(draw, middle, high)


def drawn_cut(seed, many):
    return tuple(sorted(drawn_triangles(random.Random(seed), 0, many - 1)))


def zigzag(many):
    """The cut whose triangles lean to the left and to the right by turns."""
    low, high = 0, many - 1
    found = []
    while high - low > 1:
        found.append((low, low + 1, high) if len(found) % 2 == 0 else (low, high - 1, high))
        low, high = (low + 1, high) if len(found) % 2 == 1 else (low, high - 1)
    return tuple(sorted(found))


def fan(many, corner):
    """The cut all of whose triangles have the corner."""
    sides = [(k, k + 1) for k in range(many - 1)] + [(0, many - 1)]
    return tuple(sorted(tuple(sorted((corner,) + side)) for side in sides if corner not in side))


def great_cuts():
    fans = [fan(30, corner) for corner in (0, 1, 14, 28, 29)]
    return fans + [zigzag(30)] + [drawn_cut(seed, 30) for seed in range(20)]


def triangles_of(many):
    return list(combinations(range(many), 3))


def no_cuts(many, cut):
    """What is no cut of so many corners, but looks like this one."""
    others = [one for one in triangles_of(many) if one not in cut]
    others = others if many < 8 else others[::137]
    for at, one in enumerate(cut):
        rest = cut[:at] + cut[at + 1:]
        yield rest
        yield tuple(sorted(cut + (one,)))
        yield from [tuple(sorted(rest + (other,))) for other in others]
        for odd in [list(one), one[::-1], one[:2], one + (many - 1,), one + (many,), (one,), str(one), None, (), "", 0]:
            yield otherwise(cut, at, odd)
        yield from [otherwise(cut, at, odd) for odd in lots_with_one_thing_otherwise(one, many)]
    yield from [tuple(sorted(cut + (other,))) for other in others]
    yield from [list(cut), {one: True for one in cut}, str(cut), (cut,), [cut], cut + ((),), ((),) + cut, cut + (None,)]
    if len(cut) > 1:
        yield from [cut[::-1], cut[1:] + cut[:1], (cut[1], cut[0]) + cut[2:], cut[:-2] + (cut[-1], cut[-2])]


class IsCutTest(unittest.TestCase):

    def check(self, due, thing, many):
        self.assertIs(due, is_cut(thing, many), (thing, many))

    def test_all_cuts_of_few_corners(self):
        for many, cuts in LISTED.items():
            for cut in cuts:
                self.check(True, cut, many)

    def test_all_sets_of_triangles_of_few_corners(self):
        for many in range(2, 6):
            for size in range(len(triangles_of(many)) + 1):
                for thing in combinations(triangles_of(many), size):
                    self.check(thing in LISTED[many], thing, many)
        for size in (3, 4, 5):
            for thing in combinations(triangles_of(6), size):
                self.check(thing in LISTED[6], thing, 6)

    def test_by_hand(self):
        self.check(True, (), 2)
        self.check(True, ((0, 1, 2),), 3)
        self.check(True, ((0, 1, 2), (0, 2, 3)), 4)
        self.check(True, ((0, 1, 3), (1, 2, 3)), 4)
        self.check(False, ((0, 1, 2), (1, 2, 3)), 4)
        self.check(False, ((0, 1, 2), (0, 1, 3)), 4)
        self.check(True, ((0, 1, 2), (0, 2, 4), (2, 3, 4)), 5)

    def test_of_two_corners_none_but_the_empty_one(self):
        self.check(True, (), 2)
        for thing in [((0, 1),), ((0, 1, 1),), ((0, 1, 2),), ((),), [], {}, "", None, False, 0]:
            self.check(False, thing, 2)
        for many in range(3, 31):
            self.check(False, (), many)

    def test_of_thirty_corners(self):
        for cut in great_cuts():
            self.assertTrue(is_listed_so(cut, 0, 29))
            self.check(True, cut, 30)
            for many in (2, 3, 28, 29):
                self.check(False, cut, many)

    def test_what_looks_like_a_cut(self):
        for many in range(3, 7):
            for cut in LISTED[many]:
                for thing in no_cuts(many, cut):
                    self.check(False, thing, many)
        for cut in great_cuts()[::4]:
            for thing in no_cuts(30, cut):
                self.check(False, thing, 30)

    def test_any_other_order(self):
        for cut in LISTED[6]:
            for thing in permutations(cut):
                self.check(thing == cut, thing, 6)

    def test_cuts_of_parts_together(self):
        # As many as there should be, each corner in some, but they stand over one another.
        for seed in range(40):
            one = drawn_cut(seed, 12)
            other = drawn_cut(seed + 1000, 12)
            for taken in range(1, 10):
                thing = tuple(sorted(set(one[:taken] + other[taken:])))
                self.check(is_listed_so(thing, 0, 11), thing, 12)

    def test_cuts_of_other_many_corners(self):
        for many, cuts in LISTED.items():
            for other in list(range(2, 10)) + [30]:
                if other != many:
                    for cut in cuts[:20]:
                        self.check(False, cut, other)

    def test_things_of_whatever_kind(self):
        for many in (2, 3, 4, 5, 30):
            for thing in ODD_THINGS:
                self.check(False, thing, many)

    def test_no_number(self):
        for many in NO_MANY:
            for thing in [(), ((0, 1, 2),), LISTED[4][0], None, True, [], "", {}, GREAT]:
                assert_refused(self, NoNumber, is_cut, thing, many)


class CutsAndCoversTest(unittest.TestCase):

    def test_they_are_the_covers_of_the_curves_2_deep(self):
        for many in range(3, 8):
            cuts = [cut_at(many, number) for number in range(cuts_many(many))]
            assert_told(self, all_covers((many, 2)), sorted(cuts))

    def test_of_eight_and_nine_corners_by_the_words_of_62(self):
        for many in (8, 9):
            panes = set(plain_panes((many, 2)))
            crossing = {pair: plain_cross(*pair, 2) for pair in combinations(triangles_of(many), 2)}
            found = []
            left = [((), triangles_of(many))]
            while left:
                chosen, others = left.pop()
                # A cover of the corners has just so many triangles: no more fit side by side.
                if len(chosen) == many - 2 and plain_is_covering(chosen, (many, 2), panes):
                    found.append(chosen)
                for at, cell in enumerate(others):
                    fitting = [other for other in others[at + 1:] if not crossing[cell, other]]
                    if len(chosen) + 1 + len(fitting) >= many - 2:
                        left.append((chosen + (cell,), fitting))
            assert_told(self, sorted(LISTED[many]), sorted(found))


class CutsManyTest(unittest.TestCase):

    def test_as_many_as_listed(self):
        for many, cuts in LISTED.items():
            assert_told(self, len(cuts), cuts_many(many))

    def test_from_2_to_100_by_the_words_of_81(self):
        due = {2: 1}
        for many in range(3, 101):
            due[many] = sum(due[middle + 1] * due[many - middle] for middle in range(1, many - 1))
        for many in range(2, 101):
            assert_told(self, due[many], cuts_many(many))
            assert_told(self, comb(2 * many - 4, many - 2) // (many - 1), cuts_many(many))

    def test_by_hand(self):
        self.assertEqual([1, 1, 2, 5, 14, 42, 132, 429, 1430], [cuts_many(many) for many in range(2, 11)])
        assert_told(self, 263747951750360, cuts_many(30))

    def test_no_number(self):
        for many in [thing for thing in NO_MANY if thing not in (31, 32)] + [101, 102, 1000, 10 ** 9]:
            assert_refused(self, NoNumber, cuts_many, many)


class NumberedTest(unittest.TestCase):

    def test_all_numbers_of_few_corners_in_order(self):
        for many, cuts in LISTED.items():
            for number, cut in enumerate(cuts):
                assert_told(self, cut, cut_at(many, number))
                assert_told(self, number, number_of(many, cut))

    def test_by_hand(self):
        assert_told(self, (), cut_at(2, 0))
        assert_told(self, 0, number_of(2, ()))
        assert_told(self, ((0, 1, 3), (1, 2, 3)), cut_at(4, 0))
        assert_told(self, ((0, 1, 2), (0, 2, 3)), cut_at(4, 1))
        # Of like b the part up to b goes ahead of the part from b on.
        assert_told(self, ((0, 1, 3), (0, 3, 5), (1, 2, 3), (3, 4, 5)), cut_at(6, 7))
        assert_told(self, 263747951750359, number_of(30, fan(30, 0)))
        assert_told(self, 0, number_of(30, fan(30, 29)))

    def test_the_first_and_the_last_of_many(self):
        for many in range(3, 31):
            assert_told(self, fan(many, many - 1), cut_at(many, 0))
            assert_told(self, fan(many, 0), cut_at(many, cuts_many(many) - 1))
            assert_told(self, 0, number_of(many, fan(many, many - 1)))
            assert_told(self, cuts_many(many) - 1, number_of(many, fan(many, 0)))

    def test_drawn_numbers(self):
        draw = random.Random(82)
        for many in list(range(10, 30)) + [30] * 40:
            number = draw.randrange(cuts_many(many))
            cut = cut_at(many, number)
            self.assertTrue(is_listed_so(cut, 0, many - 1))
            self.assertIs(True, is_cut(cut, many))
            assert_told(self, number, number_of(many, cut))

    def test_drawn_cuts(self):
        for cut in great_cuts():
            number = number_of(30, cut)
            self.assertIs(int, type(number))
            self.assertTrue(0 <= number < cuts_many(30))
            assert_told(self, cut, cut_at(30, number))

    def test_the_order_of_drawn_cuts_is_that_of_its_words(self):
        def place(cut, low, high):
            """What cuts are put in order by: b, then the part up to b, then that from b on."""
            if high - low == 1:
                return ()
            middle = next(one[1] for one in cut if (one[0], one[2]) == (low, high))
            return (middle, place(cut, low, middle), place(cut, middle, high))

        draw = random.Random(821)
        for many in (9, 15, 24, 30):
            numbers = sorted(draw.sample(range(cuts_many(many)), 30))
            places = [place(cut_at(many, number), 0, many - 1) for number in numbers]
            self.assertEqual(sorted(places), places)
            self.assertEqual(len(numbers), len(set(places)))

    def test_neighbours_in_the_order(self):
        draw = random.Random(822)
        for drawn in range(30):
            number = draw.randrange(cuts_many(30) - 1)
            self.assertEqual(1, number_of(30, cut_at(30, number + 1)) - number_of(30, cut_at(30, number)))

    def test_no_number_for_many(self):
        for many in NO_MANY:
            for thing in [0, 1, -1, True, None, "0", GREAT, [], (), LISTED[4][0]]:
                assert_refused(self, NoNumber, cut_at, many, thing)
                assert_refused(self, NoNumber, number_of, many, thing)

    def test_no_number_that_a_cut_has(self):
        for many in range(2, 31):
            wrong = [-1, -2, cuts_many(many), cuts_many(many) + 1, GREAT, -GREAT, cuts_many(100)]
            for number in wrong + NO_NUMBERS:
                assert_refused(self, NoNumber, cut_at, many, number)

    def test_no_cut(self):
        for function in [number_of, ears]:
            for many in range(3, 6):
                for cut in LISTED[many]:
                    for thing in no_cuts(many, cut):
                        assert_refused(self, NoCut, function, many, thing)
            for thing in no_cuts(30, zigzag(30)):
                assert_refused(self, NoCut, function, 30, thing)
            for many in (2, 3, 4, 30):
                for thing in ODD_THINGS + [LISTED[5][0], LISTED[6][0]]:
                    assert_refused(self, NoCut, function, many, thing)


def due_ears(many, cut):
    return tuple(len([one for one in cut if corner in one]) for corner in range(many))


BY_EARS = {due_ears(many, cut): cut for many, cuts in LISTED.items() for cut in cuts}


class EarsTest(unittest.TestCase):

    def test_all_cuts_of_few_corners(self):
        for many, cuts in LISTED.items():
            for cut in cuts:
                assert_told(self, due_ears(many, cut), ears(many, cut))
                assert_told(self, cut, cut_by(ears(many, cut)))

    def test_no_two_cuts_have_the_same(self):
        self.assertEqual(sum(len(cuts) for cuts in LISTED.values()), len(BY_EARS))

    def test_cuts_of_thirty(self):
        for cut in great_cuts():
            assert_told(self, due_ears(30, cut), ears(30, cut))
            assert_told(self, cut, cut_by(ears(30, cut)))

    def test_drawn_cuts_of_any_many(self):
        for many in range(10, 31):
            for seed in range(10):
                cut = drawn_cut(seed, many)
                assert_told(self, cut, cut_by(due_ears(many, cut)))

    def test_by_hand(self):
        assert_told(self, (0, 0), ears(2, ()))
        assert_told(self, (1, 1, 1), ears(3, ((0, 1, 2),)))
        assert_told(self, (3, 1, 2, 2, 1), ears(5, ((0, 1, 2), (0, 2, 3), (0, 3, 4))))
        assert_told(self, (), cut_by((0, 0)))
        assert_told(self, ((0, 1, 2),), cut_by((1, 1, 1)))
        assert_told(self, ((0, 1, 2), (0, 2, 3)), cut_by((2, 1, 2, 1)))
        assert_told(self, ((0, 1, 3), (1, 2, 3)), cut_by((1, 2, 1, 2)))

    def test_no_number_for_many_goes_ahead(self):
        for many in NO_MANY:
            for thing in [(), LISTED[4][0], None, True, [], "", GREAT]:
                assert_refused(self, NoNumber, ears, many, thing)


class CutByTest(unittest.TestCase):

    def test_all_small_numbers_of_few_corners(self):
        for many, least, most in [(2, -2, 3), (3, -2, 3), (4, -1, 4), (5, 0, 4), (6, 0, 4)]:
            for thing in product(range(least, most + 1), repeat=many):
                assert_told(self, BY_EARS.get(thing), cut_by(thing))

    def test_numbers_that_no_cut_has(self):
        for thing in [(0, 1), (1, 0), (1, 1), (-1, 1), (0, 0, 0), (1, 1, 2), (2, 2, 2), (1, 1, 1, 1), (2, 2, 1, 1),
                      (3, 1, 1, 1), (0, 2, 2, 2), (3, 3, 0, 0), (2, 2, 2, 2, 1), (1, 1, 1, 3, 3), (GREAT, -GREAT),
                      (1, 1, GREAT), (GREAT, 1, 1, -GREAT), (-1, -1, -1), (0,) * 30, (1,) * 30, (3,) * 30, (2,) * 30,
                      (GREAT,) * 30, (1, 2) * 15, (28,) + (2,) * 29, (1, 1) + (3,) * 26 + (2, 2)]:
            assert_told(self, None, cut_by(thing))

    def test_one_or_two_numbers_otherwise(self):
        for cut in great_cuts()[::3]:
            numbers = due_ears(30, cut)
            for at in range(30):
                for number in [numbers[at] + 1, numbers[at] - 1, 0, -1, GREAT, -GREAT]:
                    assert_told(self, None, cut_by(otherwise(numbers, at, number)))
            # As many in all, but two neighbours have one more and one less: no cut where a corner is left without any.
            for at in [at for at in range(30) if numbers[at] == 1]:
                more = otherwise(numbers, at, 0)
                assert_told(self, None, cut_by(otherwise(more, at - 1, numbers[at - 1] + 1)))

    def test_the_numbers_of_turned_corners(self):
        # Turned about, the corners of a cut make a cut, and so they do moved on.
        for cut in great_cuts():
            moved = tuple(sorted(tuple(sorted((corner + 1) % 30 for corner in one)) for one in cut))
            about = tuple(sorted(tuple(29 - corner for corner in one[::-1]) for one in cut))
            numbers = due_ears(30, cut)
            assert_told(self, moved, cut_by(numbers[-1:] + numbers[:-1]))
            assert_told(self, about, cut_by(numbers[::-1]))

    def test_two_numbers_exchanged(self):
        # What is told has these very ears, and where none is told the cut that could have them is none.
        for cut in LISTED[7]:
            numbers = due_ears(7, cut)
            for one, other in combinations(range(7), 2):
                thing = otherwise(otherwise(numbers, one, numbers[other]), other, numbers[one])
                assert_told(self, BY_EARS.get(thing), cut_by(thing))

    def test_no_number(self):
        for thing in [(), (0,), (1,), (0,) * 31, (1,) * 31, (2,) * 40, [0, 0], [1, 1, 1], "00", "111", {0: 0, 1: 0},
                      ((0, 0),), [(0, 0)], ((1, 1, 1),), LISTED[4][0], due_ears(30, zigzag(30)) + (0,)]:
            assert_refused(self, NoNumber, cut_by, thing)

    def test_things_of_whatever_kind(self):
        for thing in ODD_THINGS:
            if isinstance(thing, tuple) and len(thing) > 1 and all(type(one) is int for one in thing):
                # Some of the odd things are tuples of whole numbers.
                assert_told(self, BY_EARS.get(thing), cut_by(thing))
            else:
                assert_refused(self, NoNumber, cut_by, thing)

    def test_a_wrong_thing_at_any_place(self):
        for numbers in [(0, 0), (1, 1, 1), (2, 1, 2, 1), (3, 1, 2, 2, 1), due_ears(30, zigzag(30)), (5,) * 30]:
            for at in range(len(numbers)):
                for thing in [True, False, None, "", "1", [], [1], (), (1,), {}, {1: 1}]:
                    assert_refused(self, NoNumber, cut_by, otherwise(numbers, at, thing))

    def test_numbers_below_nought_are_whole_numbers(self):
        for thing in [(-1, -1), (-GREAT, 0), (1, 1, -1), (-1, 1, -1, 1), (-5,) * 30]:
            assert_told(self, None, cut_by(thing))


if __name__ == "__main__":
    unittest.main()
