"""[3], [4], [5] and the interface: what holds for each function."""

import ast
import copy
import importlib
import inspect
import os
import unittest

from curvefaces.counts import counts, faces, growth
from curvefaces.covers import all_covers, do_cross, highest, is_cover, lowest
from curvefaces.curves import blocks, is_curve, is_face, is_lot, is_pane, odd_inner
from curvefaces.desk import Desk
from curvefaces.errors import CurveError, NoCorner, NoCurve, NoFace, NoLot, NoPane
from curvefaces.most import first_above, missing, reach
from curvefaces.moved import at_corner, does_keep, keepers, moved_on, named, turned_about
from curvefaces.panes import beyond, first_pane, panes, panes_at, panes_many
from curvefaces.sides import high_panes, is_low, low_panes, sides_many
from curvefaces.texts import read, show
from curvefaces.triangles import cut_at, cut_by, cuts_many, ears, is_cut, number_of
from curvefaces.turns import downs, halves, steps_between, turned_down, turned_up, ups, way_up
from tests.support import NO_CURVES, ODD_THINGS, assert_refused, assert_told

INTERFACE = {
    "curvefaces.curves": {
        "is_curve": ["thing"], "is_lot": ["thing", "curve"], "is_pane": ["thing", "curve"],
        "is_face": ["thing", "curve"], "blocks": ["curve", "lot"], "odd_inner": ["curve", "lot"],
    },
    "curvefaces.texts": {"show": ["curve", "lots"], "read": ["text"]},
    "curvefaces.panes": {
        "panes": ["curve"], "first_pane": ["curve", "face"], "panes_at": ["curve", "lot"],
        "beyond": ["curve", "pane", "corner"], "panes_many": ["many", "deep"],
    },
    "curvefaces.counts": {"faces": ["curve", "size"], "growth": ["many", "deep"], "counts": ["many", "deep"]},
    "curvefaces.most": {"missing": ["curve"], "reach": ["curve"], "first_above": ["numbers"]},
    "curvefaces.sides": {
        "is_low": ["curve", "pane"], "low_panes": ["curve"], "high_panes": ["curve"], "sides_many": ["many", "deep"],
    },
    "curvefaces.covers": {
        "do_cross": ["curve", "one", "other"], "is_cover": ["thing", "curve"], "all_covers": ["curve"],
        "lowest": ["curve"], "highest": ["curve"],
    },
    "curvefaces.turns": {
        "halves": ["curve", "knot"], "turned_up": ["curve", "cover", "knot"], "turned_down": ["curve", "cover", "knot"],
        "ups": ["curve", "cover"], "downs": ["curve", "cover"], "way_up": ["curve", "cover"],
        "steps_between": ["curve", "one", "other"],
    },
    "curvefaces.triangles": {
        "is_cut": ["thing", "many"], "cuts_many": ["many"], "cut_at": ["many", "number"], "number_of": ["many", "cut"],
        "ears": ["many", "cut"], "cut_by": ["numbers"],
    },
    "curvefaces.moved": {
        "turned_about": ["curve", "lot"], "moved_on": ["curve", "lot"], "named": ["curve", "lot", "order"],
        "does_keep": ["thing", "curve"], "keepers": ["curve"], "at_corner": ["curve", "corner"],
    },
    "curvefaces.desk": {"Desk": []},
}

LOW = ((0, 1, 2), (0, 2, 3), (0, 3, 4))
HIGH = ((0, 1, 4), (1, 2, 4), (2, 3, 4))


def said(line):
    """What a new desk answers."""
    return Desk().say(line)


CALLS = [
    (is_curve, [(6, 3)]), (is_lot, [(0, 1), (6, 3)]), (is_pane, [(0, 1, 2), (6, 3)]), (is_face, [(0, 1), (6, 3)]),
    (blocks, [(6, 3), (0, 2, 3)]), (odd_inner, [(6, 3), (0, 2, 3)]), (show, [(6, 3), ((0,), (1,))]), (read, ["6 3 : 0"]),
    (panes, [(6, 3)]), (first_pane, [(6, 3), (0, 1)]), (panes_at, [(6, 3), (0, 1)]),
    (beyond, [(6, 3), (0, 1, 2), 0]), (panes_many, [6, 3]),
    (faces, [(6, 3), 2]), (growth, [6, 3]), (counts, [6, 3]),
    (missing, [(6, 3)]), (reach, [(6, 3)]), (first_above, [(1, 6, 13, 8)]),
    (is_low, [(6, 3), (0, 1, 2)]), (low_panes, [(6, 3)]), (high_panes, [(6, 3)]), (sides_many, [6, 3]),
    (do_cross, [(5, 2), (0, 1, 3), (0, 2, 4)]), (is_cover, [((0, 1, 2), (0, 2, 3)), (4, 2)]), (all_covers, [(5, 2)]),
    (lowest, [(5, 2)]), (highest, [(5, 2)]),
    (halves, [(5, 2), (0, 1, 2, 3)]), (turned_up, [(5, 2), LOW, (0, 1, 2, 3)]),
    (turned_down, [(5, 2), HIGH, (1, 2, 3, 4)]), (ups, [(5, 2), LOW]), (downs, [(5, 2), HIGH]), (way_up, [(5, 2), LOW]),
    (steps_between, [(5, 2), LOW, HIGH]),
    (is_cut, [LOW, 5]), (cuts_many, [5]), (cut_at, [5, 3]), (number_of, [5, LOW]), (ears, [5, LOW]),
    (cut_by, [(3, 1, 2, 2, 1)]),
    (turned_about, [(6, 3), (0, 1)]), (moved_on, [(6, 3), (0, 5)]), (named, [(3, 1), (0, 1), (1, 2, 0)]),
    (does_keep, [(2, 1, 0), (3, 1)]), (keepers, [(4, 2)]), (at_corner, [(6, 3), 2]),
    (said, ["curve 5 2"]), (said, ["told"]), (said, ["face 0"]),
]

LISTS = [
    (blocks, [(6, 3), (0, 2, 3)]), (panes, [(6, 3)]), (panes_at, [(6, 3), (0,)]), (panes_at, [(6, 3), (1, 3)]),
    (faces, [(6, 3), 0]), (faces, [(6, 3), 2]), (faces, [(6, 3), 3]), (missing, [(6, 3)]), (low_panes, [(6, 3)]),
    (high_panes, [(6, 3)]), (all_covers, [(5, 2)]), (all_covers, [(3, 2)]),
    (ups, [(5, 2), LOW]), (downs, [(5, 2), LOW]), (downs, [(5, 2), HIGH]), (way_up, [(5, 2), LOW]),
    (way_up, [(5, 2), HIGH]),
    (keepers, [(4, 2)]), (at_corner, [(6, 3), 2]), (at_corner, [(6, 1), 2]),
]


class InterfaceTest(unittest.TestCase):

    def test_names_arguments_and_files(self):
        for file, functions in INTERFACE.items():
            module = importlib.import_module(file)
            for name, arguments in functions.items():
                function = getattr(module, name)
                self.assertEqual(file, function.__module__)
                self.assertEqual(arguments, list(inspect.signature(function).parameters))

    def test_the_method_of_a_desk(self):
        self.assertIn("say", vars(Desk))
        self.assertEqual(["self", "line"], list(inspect.signature(Desk.say).parameters))

    def test_each_is_defined_in_its_file(self):
        for file, functions in INTERFACE.items():
            with open(importlib.import_module(file).__file__, encoding="ascii") as text:
                defined = [node.name for node in ast.parse(text.read()).body
                           if isinstance(node, (ast.FunctionDef, ast.ClassDef))]
            for name in functions:
                self.assertEqual(1, defined.count(name), (file, name))


class NothingIsChangedTest(unittest.TestCase):

    def test_what_is_handed_in_stays(self):
        for function, arguments in CALLS:
            for at in range(len(arguments)):
                for thing in ODD_THINGS + NO_CURVES:
                    handed = arguments[:at] + [thing] + arguments[at + 1:]
                    before = copy.deepcopy(handed)
                    try:
                        function(*handed)
                    except CurveError:
                        pass
                    assert_told(self, before, handed)

    def test_the_same_asked_again_has_the_same_answer(self):
        for function, arguments in CALLS:
            first = repr(function(*arguments))
            for other, others in CALLS:
                other(*others)
            self.assertEqual(first, repr(function(*arguments)))

    def test_a_told_list_that_is_changed_is_told_anew(self):
        for function, arguments in LISTS:
            told = function(*arguments)
            due = copy.deepcopy(told)
            told.append("more")
            told.reverse()
            assert_told(self, due, function(*arguments))
            told.clear()
            assert_told(self, due, function(*arguments))

    def test_a_changed_list_of_one_function_leaves_the_others(self):
        due = [repr(function(*arguments)) for function, arguments in CALLS]
        panes((6, 3)).clear()
        panes_at((6, 3), (0, 1)).clear()
        blocks((6, 3), (0, 2, 3)).clear()
        faces((6, 3), 2).clear()
        missing((6, 3)).clear()
        low_panes((6, 3)).clear()
        high_panes((6, 3)).clear()
        all_covers((5, 2)).clear()
        ups((5, 2), LOW).clear()
        downs((5, 2), HIGH).clear()
        way_up((5, 2), LOW).clear()
        keepers((4, 2)).clear()
        at_corner((6, 3), 2).clear()
        self.assertEqual(due, [repr(function(*arguments)) for function, arguments in CALLS])

    def test_two_told_lists_held_at_once_have_nothing_in_common(self):
        for function, arguments in LISTS:
            one = function(*arguments)
            other = function(*arguments)
            self.assertIsNot(one, other)
            due = copy.deepcopy(other)
            one.insert(0, "more")
            del one[1:]
            assert_told(self, due, other)
            for thing in due:
                self.assertIs(tuple, type(thing))


class WhichRefusalGoesFirstTest(unittest.TestCase):

    def test_no_curve_ahead_of_all(self):
        for curve in NO_CURVES:
            for thing in ODD_THINGS[::7]:
                for function in [is_lot, is_pane, is_face]:
                    assert_refused(self, NoCurve, function, thing, curve)
                for function in [blocks, odd_inner, show, first_pane, panes_at]:
                    assert_refused(self, NoCurve, function, curve, thing)
                assert_refused(self, NoCurve, beyond, curve, thing, thing)

    def test_then_from_the_left(self):
        for thing in ODD_THINGS:
            assert_refused(self, NoPane, beyond, (6, 3), thing, thing)
            assert_refused(self, NoPane, beyond, (6, 3), (1, 2, 3), thing)
        assert_refused(self, NoCorner, beyond, (6, 3), (0, 1, 2), 3)

    def test_each_thing_has_its_own_refusal(self):
        for thing in [None, [0], (1, 0), (True,), (6,)]:
            assert_refused(self, NoLot, panes_at, (6, 3), thing)
            assert_refused(self, NoLot, blocks, (6, 3), thing)
            assert_refused(self, NoLot, odd_inner, (6, 3), thing)
            assert_refused(self, NoLot, show, (6, 3), thing)
            assert_refused(self, NoFace, first_pane, (6, 3), thing)
            assert_refused(self, NoPane, beyond, (6, 3), thing, 0)


class LanguageTest(unittest.TestCase):
    """Those rules of the language that a short test can see."""

    def setUp(self):
        top = os.path.dirname(os.path.dirname(os.path.abspath(__file__)))
        self.texts = {}
        folder = os.path.join(top, "curvefaces")
        for name in os.listdir(folder):
            if name != "__pycache__":
                with open(os.path.join(folder, name), encoding="ascii") as file:
                    self.texts[name] = file.read()

    def test_files_lines_and_signs(self):
        for name, text in self.texts.items():
            self.assertRegex(name, r"^[a-z_]+\.py$")
            self.assertLessEqual(len(text.split("\n")), 399)
            for line in text.split("\n"):
                self.assertLessEqual(len(line), 120)
                self.assertRegex(line, "^[ -~]*$")
            self.assertNotRegex(text, r"\b(type|typing|enum|Enum|Generic|Protocol|ABC|namedtuple)\b")

    def test_functions_and_imports(self):
        for name, text in self.texts.items():
            for node in ast.walk(ast.parse(text)):
                self.assertNotIsInstance(node, (ast.Import, ast.Global, ast.AsyncFunctionDef))
                if isinstance(node, ast.ImportFrom):
                    self.assertEqual("curvefaces", node.module.split(".")[0])
                if isinstance(node, ast.FunctionDef):
                    self.assertLessEqual(node.end_lineno - node.lineno + 1, 40, node.name)
                if isinstance(node, ast.Constant):
                    self.assertNotIsInstance(node.value, float)
                    self.assertNotIn("%", str(node.value))


if __name__ == "__main__":
    unittest.main()
