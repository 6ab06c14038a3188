"""[13]: a curve and lots of it, written and read."""

import unittest

from curvefaces.errors import NoCurve, NoLot, NoText
from curvefaces.panes import panes
from curvefaces.texts import read, show
from tests.support import CURVES, GREAT, NO_CURVES, ODD_THINGS, all_lots, assert_refused, assert_told

WRITTEN = [
    ((6, 3), (), "6 3 :"),
    ((6, 3), ((),), "6 3 : -"),
    ((6, 3), ((0, 1, 2), (0, 4, 5)), "6 3 : 012 045"),
    ((6, 3), ((), (0,), (0, 1), (0, 1, 2, 3, 4, 5), (0, 2), (5,)), "6 3 : - 0 01 012345 02 5"),
    ((2, 1), ((0,), (0, 1), (1,)), "2 1 : 0 01 1"),
    ((9, 6), ((0, 1, 2, 3, 4, 5, 6, 7, 8),), "9 6 : 012345678"),
    ((9, 1), ((8,),), "9 1 : 8"),
]

NO_TEXTS = [
    "", " ", ":", "6", "6 3", "6 3 ", "63 :", "6 3:", "6  3 :", " 6 3 :", "6 3 : ", "6 3 :  ", "6 3  :", "6 3 : 012 ",
    "6 3 :  012", "6 3 : 012  045", "6 3 :012", "6 3 012", "6 3 012 :", "6 3 ; 012", "6 3 :: 012", "6 3 : : 012",
    "6 3 : 012,045", "6,3 : 012", "6 : 3", ": 6 3", "6 : 012", "6 3 3 : 012",
    "6 3 : 045 012", "6 3 : 012 012", "6 3 : 012 -", "6 3 : - -", "6 3 : 0 -", "6 3 : --", "6 3 : -0", "6 3 : 0-",
    "6 3 : 01 0", "6 3 : 5 0", "6 3 : 10", "6 3 : 00", "6 3 : 011", "6 3 : 210", "6 3 : 016", "6 3 : 6", "6 3 : 9",
    "6 3 : 0123456", "6 3 : 0 1 2 6", "2 1 : 2", "9 6 : 9", "9 6 : 0123456789",
    "06 3 :", "6 03 :", "006 3 : 012", "+6 3 :", "-6 3 :", "6 -3 :", "6 +3 :", "6. 3 :", "6 3. :", "6 3 : +0", "6 3 : 0.",
    "6 0 :", "6 6 :", "6 7 :", "3 6 :", "0 0 :", "1 1 :", "1 0 :", "8 7 :", "9 7 :", "9 9 :", "10 3 :", "10 3 : 012", "12 6 :",
    "6 3 :\n", "\n6 3 :", "6\t3 :", "6 3\t: 012", "6 3 :\t012", "6 3 : 012\n", "6 3 : 012\n045", "6 3 : 0 1\r",
    "a 3 :", "6 b :", "6 3 : a", "6 3 : 0a", "6 3 : none", "6 3 : ()", "(6, 3) : 012", "six three :", "6_ 3 :", "6 3 : 0_1",
    "6 3 : 012 045 0", "6 3 : 012 0 45", "(6, 3)", "-", "-6 3 : 0", "6 3 - 012", "6 3 - : 012", "- - :", "6 - :",
    "9" * 200, "6 3 : " + "0" * 190, "6 3 :" + " " * 190,
]


class ShowTest(unittest.TestCase):

    def test_written(self):
        for curve, lots, text in WRITTEN:
            assert_told(self, text, show(curve, lots))

    def test_no_lots(self):
        wrong = [
            ((0, 4, 5), (0, 1, 2)), ((0, 1, 2), (0, 1, 2)), ((), ()), ((0,), ()), ((0, 1), (0,)),
            ((0, 6),), ((6,),), ((1, 0),), ((0, 0),), ((-1,),), ((True,),), ((0,), (False, 1)), ((0,), None), ((0,), 1),
            ((0,), "1"), ((0,), [1]), ([0],), ("0",), (0, 1), (0,), [(0,)], [], {}, {(0,): 1}, None, True, False, 0,
            "", "012", "-", GREAT, ((GREAT,),), (None, (0,)), ((0,), {}), (((0,),),), ("0", "1"), ([0], [1]),
        ]
        for lots in wrong:
            assert_refused(self, NoLot, show, (6, 3), lots)
        # ((),) and (()) differ: the first holds the lot of none, the other is no lots at all.
        for lots in [thing for thing in ODD_THINGS if thing not in (((),), ((0,),))]:
            assert_refused(self, NoLot, show, (6, 3), lots)

    def test_no_curve_goes_ahead(self):
        for curve in NO_CURVES:
            for lots in [(), ((),), ((0,),), None, [], ((1, 0),), True]:
                assert_refused(self, NoCurve, show, curve, lots)


class ReadTest(unittest.TestCase):

    def test_written(self):
        for curve, lots, text in WRITTEN:
            assert_told(self, (curve, lots), read(text))

    def test_what_was_shown_is_read_to_the_same(self):
        for curve in CURVES:
            every = all_lots(curve)
            for lots in [(), ((),), tuple(panes(curve)), tuple(every), tuple(every[1::3]), tuple(every[:5])]:
                text = show(curve, lots)
                assert_told(self, (curve, lots), read(text))
                self.assertEqual(text, show(*read(text)))

    def test_each_lot_alone(self):
        for lot in all_lots((9, 4)):
            assert_told(self, ((9, 4), (lot,)), read(show((9, 4), (lot,))))

    def test_not_written_so(self):
        for text in NO_TEXTS:
            assert_refused(self, NoText, read, text)

    def test_a_sign_more_or_less(self):
        # A text that comes by a blank, a mark or a letter more, or a sign less, is read only if it is written so itself.
        for curve, lots, text in WRITTEN:
            for at in range(len(text) + 1):
                for sign in [" ", "-", ":", "x", "\n", "+"]:
                    self.check_read_or_refused(text[:at] + sign + text[at:])
                self.check_read_or_refused(text[:at] + text[at + 1:])

    def check_read_or_refused(self, text):
        try:
            curve, lots = read(text)
        except NoText:
            return
        self.assertEqual(text, show(curve, lots))

    def test_things_of_whatever_kind(self):
        for thing in ODD_THINGS + [((6, 3), ()), (6, 3), ["6 3 :"], ("6 3 :",), {"6 3 :": 1}, ["6", "3", ":"]]:
            assert_refused(self, NoText, read, thing)


if __name__ == "__main__":
    unittest.main()
