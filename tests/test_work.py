"""How much work an answer takes, counted in calls of the program's own functions and not by a clock.

The document promises nothing of it; but panes are asked for often, so no answer may go through all lots anew, or ask
over and over whether the curve is one, and what is built on them asks none of them over and over.
"""

import os
import sys
import unittest

import curvefaces
from curvefaces.counts import faces
from curvefaces.covers import all_covers, do_cross, highest, is_cover, lowest
from curvefaces.curves import is_face, is_pane, odd_inner
from curvefaces.most import missing, reach
from curvefaces.moved import at_corner, does_keep, keepers, moved_on, named, turned_about
from curvefaces.panes import beyond, first_pane, panes, panes_at
from curvefaces.sides import high_panes, is_low, low_panes
from curvefaces.texts import read, show
from curvefaces.triangles import cut_at, cut_by, cuts_many, ears, is_cut, number_of
from curvefaces.turns import downs, halves, steps_between, turned_down, turned_up, ups, way_up
from tests.support import CURVES, SMALL_CURVES, all_lots, plain_faces, plain_panes

FOLDER = os.path.dirname(os.path.abspath(curvefaces.__file__))
MOST_CALLS = 500
ASKED_OF_PANES = ["panes", "panes_at", "first_pane", "beyond", "is_pane", "is_face", "is_lot"]


def names_called(function, *arguments):
    """The names of the program's functions that are called, in order, each as often as it is called."""
    names = []

    def note(frame, event, thing):
        if event == "call" and os.path.dirname(os.path.abspath(frame.f_code.co_filename)) == FOLDER:
            names.append(frame.f_code.co_name)

    before = sys.getprofile()
    sys.setprofile(note)
    try:
        function(*arguments)
    finally:
        sys.setprofile(before)
    return names


class WorkTest(unittest.TestCase):

    def check(self, function, *arguments):
        names = names_called(function, *arguments)
        self.assertIn(function.__name__, names)
        self.assertLessEqual(len(names), MOST_CALLS, (function.__name__, arguments))
        self.assertLessEqual(names.count("is_curve"), 1, (function.__name__, arguments))
        self.assertLessEqual(names.count("is_lot"), 1, (function.__name__, arguments))

    def test_panes_and_what_is_found_from_them(self):
        for curve in CURVES:
            self.check(panes, curve)
            for lot in all_lots(curve)[::5]:
                self.check(panes_at, curve, lot)
            for face in sorted(plain_faces(curve))[::5]:
                self.check(first_pane, curve, face)

    def test_beyond(self):
        for curve in CURVES:
            for pane in plain_panes(curve):
                for corner in pane:
                    self.check(beyond, curve, pane, corner)

    def test_what_is_built_on_them(self):
        for curve in CURVES:
            lots = tuple(plain_panes(curve))
            for function in [low_panes, high_panes, missing, reach]:
                self.check_asked(function, curve)
            for size in range(curve[1] + 1):
                self.check_asked(faces, curve, size)
            self.check_asked(is_low, curve, lots[0])
            self.check_asked(odd_inner, curve, lots[0])
            self.check_asked(is_pane, lots[0], curve)
            self.check_asked(is_face, lots[0], curve)
            self.check_asked(show, curve, lots)
            self.check_asked(read, show(curve, lots))

    def test_covers(self):
        for curve in SMALL_CURVES:
            cell = tuple(range(curve[1] + 1))
            self.check_asked(do_cross, curve, cell, cell)
            for function in [all_covers, lowest, highest]:
                self.check_asked(function, curve)
            for cover in all_covers(curve):
                self.check_asked(is_cover, cover, curve)

    def test_turns(self):
        for curve in SMALL_CURVES:
            every = all_covers(curve)
            for cover in [every[0], every[len(every) // 2], every[-1]]:
                for function in [ups, downs, way_up]:
                    self.check_asked(function, curve, cover)
                self.check_asked(steps_between, curve, cover, every[-1])
                for knot in ups(curve, cover):
                    self.check_asked(halves, curve, knot)
                    self.check_asked(turned_up, curve, cover, knot)
                for knot in downs(curve, cover):
                    self.check_asked(turned_down, curve, cover, knot)

    def test_moved(self):
        for curve in CURVES:
            order = tuple(range(curve[0]))
            self.check_asked(turned_about, curve, order)
            self.check_asked(moved_on, curve, order)
            self.check_asked(named, curve, order, order)
            self.check_asked(does_keep, order, curve)
            self.check_asked(at_corner, curve, 0)
            if curve[0] <= 6:
                self.check_asked(keepers, curve)

    def test_triangles_of_thirty_corners_are_not_sought_among_all_cuts(self):
        # There are some 2.6 * 10 ** 14 cuts; each triangle is found by going through thirty corners at most.
        for number in [0, 10 ** 7, 10 ** 14, cuts_many(30) // 2, cuts_many(30) - 1]:
            cut = cut_at(30, number)
            for function, arguments in [(cut_at, [30, number]), (number_of, [30, cut]), (is_cut, [cut, 30]),
                                        (ears, [30, cut]), (cut_by, [ears(30, cut)]), (cuts_many, [100])]:
                names = names_called(function, *arguments)
                self.assertLessEqual(len(names), 10000, function.__name__)

    def check_asked(self, function, *arguments):
        names = names_called(function, *arguments)
        self.assertIn(function.__name__, names)
        for name in ASKED_OF_PANES + ["is_curve"]:
            self.assertLessEqual(names.count(name), 1, (name, function.__name__, arguments))


if __name__ == "__main__":
    unittest.main()
