"""How much work an answer takes, counted in calls of the program's own functions and not by a clock.

The document promises nothing of it; but panes are asked for often, so no answer may go through all lots anew, or ask
over and over whether the curve is one, and what is built on them asks none of them over and over.
"""

import os
import sys
import unittest

import curvefaces
from curvefaces.counts import faces
from curvefaces.covers import all_covers, do_cross, highest, is_cover, lowest
from curvefaces.curves import is_face, is_pane, odd_inner
from curvefaces.most import missing, reach
from curvefaces.panes import beyond, first_pane, panes, panes_at
from curvefaces.sides import high_panes, is_low, low_panes
from curvefaces.texts import read, show
from tests.support import CURVES, SMALL_CURVES, all_lots, plain_faces, plain_panes

FOLDER = os.path.dirname(os.path.abspath(curvefaces.__file__))
MOST_CALLS = 500
ASKED_OF_PANES = ["panes", "panes_at", "first_pane", "beyond", "is_pane", "is_face", "is_lot"]


def names_called(function, *arguments):
    """The names of the program's functions that are called, in order, each as often as it is called."""
    names = []

    def note(frame, event, thing):
        if event == "call" and os.path.dirname(os.path.abspath(frame.f_code.co_filename)) == FOLDER:
            names.append(frame.f_code.co_name)

    before = sys.getprofile()
    sys.setprofile(note)
    try:
        function(*arguments)
    finally:
        sys.setprofile(before)
    return names


class WorkTest(unittest.TestCase):

    def check(self, function, *arguments):
        names = names_called(function, *arguments)
        self.assertIn(function.__name__, names)
        self.assertLessEqual(len(names), MOST_CALLS, (function.__name__, arguments))
        self.assertLessEqual(names.count("is_curve"), 1, (function.__name__, arguments))
        self.assertLessEqual(names.count("is_lot"), 1, (function.__name__, arguments))

    def test_panes_and_what_is_found_from_them(self):
        for curve in CURVES:
            self.check(panes, curve)
            for lot in all_lots(curve)[::5]:
                self.check(panes_at, curve, lot)
            for face in sorted(plain_faces(curve))[::5]:
                self.check(first_pane, curve, face)

    def test_beyond(self):
        for curve in CURVES:
            for pane in plain_panes(curve):
                for corner in pane:
                    self.check(beyond, curve, pane, corner)

    def test_what_is_built_on_them(self):
        for curve in CURVES:
            lots = tuple(plain_panes(curve))
            for function in [low_panes, high_panes, missing, reach]:
                self.check_asked(function, curve)
            for size in range(curve[1] + 1):
                self.check_asked(faces, curve, size)
            self.check_asked(is_low, curve, lots[0])
            self.check_asked(odd_inner, curve, lots[0])
            self.check_asked(is_pane, lots[0], curve)
            self.check_asked(is_face, lots[0], curve)
            self.check_asked(show, curve, lots)
            self.check_asked(read, show(curve, lots))

    def test_covers(self):
        for curve in SMALL_CURVES:
            cell = tuple(range(curve[1] + 1))
            self.check_asked(do_cross, curve, cell, cell)
            for function in [all_covers, lowest, highest]:
                self.check_asked(function, curve)
            for cover in all_covers(curve):
                self.check_asked(is_cover, cover, curve)

    def check_asked(self, function, *arguments):
        names = names_called(function, *arguments)
        self.assertIn(function.__name__, names)
        for name in ASKED_OF_PANES + ["is_curve"]:
            self.assertLessEqual(names.count(name), 1, (name, function.__name__, arguments))


if __name__ == "__main__":
    unittest.main()
