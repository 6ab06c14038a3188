"""[101], [102]: a desk, what it is told and what it answers."""

import random
import unittest
from itertools import combinations

from curvefaces.counts import counts
from curvefaces.covers import highest, lowest
from curvefaces.desk import Desk
from curvefaces.errors import CurveError, NoCurve, NoLine, NoLot, NoNumber, NoTurn, TooMany
from curvefaces.most import missing
from curvefaces.sides import high_panes, low_panes
from curvefaces.texts import read
from curvefaces.turns import steps_between
from tests.support import (COVERS, CURVES, GREAT, GREAT_CURVES, ODD_THINGS, SMALL_CURVES, all_lots, assert_refused,
                           assert_told, knots_of, plain_faces, plain_halves, plain_panes, plain_turned)

QUESTIONS = ["told", "ups", "downs", "panes", "low", "high", "missing", "counts", "steps"]
ALONE = QUESTIONS + ["back"]
OF_A_LOT = ["up", "down", "face", "pane"]


def word(lot):
    return "".join(str(corner) for corner in lot) if lot else "-"


def words(lots):
    return " ".join(word(lot) for lot in lots) if lots else "none"


def all_words():
    """Each lot that may stand in a line: any figures from 0 to 9, rising."""
    return [word(lot) for size in range(11) for lot in combinations(range(10), size)]


def desk_at(curve):
    desk = Desk()
    desk.say(f"curve {curve[0]} {curve[1]}")
    return desk


def all_told(desk):
    """All that a desk tells without being changed."""
    return [desk.say(line) for line in QUESTIONS]


def turnings(cover, curve, up):
    """Of each knot at which the cover can be turned so what it becomes, by the very words of [72]."""
    found = {}
    for knot in knots_of(curve):
        low, high = plain_halves(knot)
        turned = plain_turned(cover, low, high) if up else plain_turned(cover, high, low)
        if turned is not None:
            found[knot] = turned
    return found


class FirstTest(unittest.TestCase):

    def test_at_first_it_keeps_the_one_cell(self):
        assert_told(self, "2 1 : 01", Desk().say("told"))
        assert_told(self, ["2 1 : 01", "none", "none", "0 1", "0", "1", "01", "1 2", "0"], all_told(Desk()))

    def test_a_text_is_answered(self):
        desk = Desk()
        for line in QUESTIONS + ["curve 6 3", "face 01", "pane -", "back"] + QUESTIONS:
            self.assertIs(str, type(desk.say(line)))


class CurveTest(unittest.TestCase):

    def test_all_curves_that_are_taken(self):
        for many, deep in SMALL_CURVES:
            desk = Desk()
            assert_told(self, words(lowest((many, deep))), desk.say(f"curve {many} {deep}"))
            assert_told(self, ((many, deep), lowest((many, deep))), read(desk.say("told")))

    def test_by_hand(self):
        desk = Desk()
        assert_told(self, "012 023 034", desk.say("curve 5 2"))
        assert_told(self, "5 2 : 012 023 034", desk.say("told"))
        assert_told(self, "01234", desk.say("curve 5 4"))
        assert_told(self, "01", desk.say("curve 2 1"))

    def test_any_two_figures(self):
        for many in range(10):
            for deep in range(10):
                line = f"curve {many} {deep}"
                if (many, deep) in SMALL_CURVES:
                    Desk().say(line)
                elif (many, deep) in GREAT_CURVES:
                    assert_refused(self, TooMany, Desk().say, line)
                else:
                    assert_refused(self, NoCurve, Desk().say, line)

    def test_no_curve_goes_ahead_of_too_many(self):
        for line in ["curve 9 9", "curve 8 8", "curve 9 7", "curve 8 0", "curve 5 5", "curve 0 0", "curve 1 1"]:
            assert_refused(self, NoCurve, Desk().say, line)

    def test_the_same_curve_again_has_its_lowest_cover(self):
        desk = desk_at((5, 2))
        desk.say("up 0123")
        assert_told(self, "012 023 034", desk.say("curve 5 2"))
        assert_told(self, "013 034 123", desk.say("back"))


class TurnsTest(unittest.TestCase):

    def reached(self, curve):
        """Of each cover of the curve a desk that keeps it, come to by turns up, and the lines it was told."""
        lines = {lowest(curve): []}
        fresh = [lowest(curve)]
        while fresh:
            cover = fresh.pop(0)
            for knot, turned in turnings(cover, curve, True).items():
                if turned not in lines:
                    lines[turned] = lines[cover] + ["up " + word(knot)]
                    fresh.append(turned)
        self.assertEqual(sorted(lines), COVERS[curve])
        return lines

    def test_each_cover_at_each_knot(self):
        for curve in SMALL_CURVES:
            for cover, lines in self.reached(curve).items():
                desk = desk_at(curve)
                for line in lines:
                    told = desk.say(line)
                if lines:
                    assert_told(self, words(cover), told)
                assert_told(self, f"{curve[0]} {curve[1]} : {words(cover)}", desk.say("told"))
                self.check_turns(desk, curve, cover)

    def check_turns(self, desk, curve, cover):
        for name, asked, up in [("up", "ups", True), ("down", "downs", False)]:
            due = turnings(cover, curve, up)
            assert_told(self, words(sorted(due)), desk.say(asked))
            for knot in knots_of(curve):
                line = name + " " + word(knot)
                if knot in due:
                    assert_told(self, words(due[knot]), desk.say(line))
                    assert_told(self, words(cover), desk.say("back"))
                else:
                    assert_refused(self, NoTurn, desk.say, line)
            assert_told(self, (curve, cover), read(desk.say("told")))
        assert_told(self, str(steps_between(curve, lowest(curve), cover)), desk.say("steps"))

    def test_by_hand(self):
        desk = desk_at((5, 2))
        assert_told(self, "0123 0234", desk.say("ups"))
        assert_told(self, "none", desk.say("downs"))
        assert_told(self, "0", desk.say("steps"))
        assert_told(self, "012 024 234", desk.say("up 0234"))
        assert_told(self, "0124", desk.say("ups"))
        assert_told(self, "0234", desk.say("downs"))
        assert_told(self, "1", desk.say("steps"))
        assert_told(self, "014 124 234", desk.say("up 0124"))
        assert_told(self, "none", desk.say("ups"))
        assert_told(self, "2", desk.say("steps"))
        assert_told(self, "014 123 134", desk.say("down 1234"))
        assert_told(self, "2", desk.say("steps"))
        assert_told(self, "013 034 123", desk.say("down 0134"))
        assert_told(self, "1", desk.say("steps"))

    def test_none_where_there_are_none(self):
        for curve in SMALL_CURVES:
            desk = desk_at(curve)
            assert_told(self, "none", desk.say("downs"))
            while desk.say("ups") != "none":
                desk.say("up " + desk.say("ups").split(" ")[0])
            assert_told(self, (curve, highest(curve)), read(desk.say("told")))

    def test_what_is_no_knot_is_refused_ahead_of_no_turn(self):
        for curve in [(2, 1), (4, 1), (5, 2), (6, 3), (7, 4), (5, 4)]:
            knots = [word(knot) for knot in knots_of(curve)]
            desk = desk_at(curve)
            for one in all_words():
                if one not in knots:
                    assert_refused(self, NoLot, desk.say, "up " + one)
                    assert_refused(self, NoLot, desk.say, "down " + one)

    def test_corners_that_the_curve_has_not(self):
        desk = desk_at((5, 2))
        for line in ["up 0125", "up 0129", "down 6789", "face 5", "face 9", "pane 09", "pane 56", "face 0123456789"]:
            assert_refused(self, NoLot, desk.say, line)


class AskedTest(unittest.TestCase):

    def test_lots_of_all_curves_that_are_taken(self):
        for curve in SMALL_CURVES:
            desk = desk_at(curve)
            assert_told(self, words(plain_panes(curve)), desk.say("panes"))
            assert_told(self, words(low_panes(curve)), desk.say("low"))
            assert_told(self, words(high_panes(curve)), desk.say("high"))
            assert_told(self, words(missing(curve)), desk.say("missing"))
            assert_told(self, " ".join(str(number) for number in counts(*curve)), desk.say("counts"))

    def test_by_hand(self):
        desk = desk_at((6, 3))
        assert_told(self, "012 015 023 034 045 125 235 345", desk.say("panes"))
        assert_told(self, "012 023 034 045", desk.say("low"))
        assert_told(self, "015 125 235 345", desk.say("high"))
        assert_told(self, "025 035 13 14 24", desk.say("missing"))
        assert_told(self, "1 6 12 8", desk.say("counts"))
        desk = desk_at((5, 1))
        assert_told(self, "0 4", desk.say("panes"))
        assert_told(self, "0", desk.say("low"))
        assert_told(self, "4", desk.say("high"))
        assert_told(self, "04 1 2 3", desk.say("missing"))
        assert_told(self, "1 2", desk.say("counts"))

    def test_each_lot_whether_it_is_a_face_or_a_pane(self):
        for curve in [(2, 1), (7, 1), (5, 2), (6, 3), (7, 4)]:
            desk = desk_at(curve)
            right = [word(lot) for lot in all_lots(curve)]
            faces = [word(lot) for lot in plain_faces(curve)]
            panes = [word(lot) for lot in plain_panes(curve)]
            for one in all_words():
                if one in right:
                    assert_told(self, "yes" if one in faces else "no", desk.say("face " + one))
                    assert_told(self, "yes" if one in panes else "no", desk.say("pane " + one))
                else:
                    assert_refused(self, NoLot, desk.say, "face " + one)
                    assert_refused(self, NoLot, desk.say, "pane " + one)

    def test_lots_of_one_and_of_none(self):
        desk = desk_at((4, 1))
        for line, due in [("face -", "yes"), ("pane -", "no"), ("face 0", "yes"), ("pane 0", "yes"), ("face 1", "no"),
                          ("pane 3", "yes"), ("pane 2", "no")]:
            assert_told(self, due, desk.say(line))
        for line in ["up -", "down -", "up 0", "face 4", "pane 9"]:
            assert_refused(self, NoLot, desk.say, line)

    def test_what_is_asked_of_the_curve_does_not_hang_on_the_cover(self):
        desk = desk_at((6, 3))
        asked = ["panes", "low", "high", "missing", "counts", "face 03", "pane 012"]
        before = [desk.say(line) for line in asked]
        desk.say("up 01234")
        self.assertEqual(before, [desk.say(line) for line in asked])


class BackTest(unittest.TestCase):

    def test_none_stands_at_first(self):
        desk = Desk()
        assert_refused(self, NoNumber, desk.say, "back")
        all_told(desk)
        assert_refused(self, NoNumber, desk.say, "back")

    def test_of_each_kind_of_deed(self):
        desk = Desk()
        desk.say("curve 5 2")
        assert_told(self, "01", desk.say("back"))
        assert_told(self, "2 1 : 01", desk.say("told"))
        assert_refused(self, NoNumber, desk.say, "back")
        desk.say("curve 5 2")
        desk.say("up 0123")
        assert_told(self, "012 023 034", desk.say("back"))
        desk.say("up 0234")
        desk.say("down 0234")
        assert_told(self, "012 024 234", desk.say("back"))
        assert_told(self, "012 023 034", desk.say("back"))
        assert_told(self, "01", desk.say("back"))
        assert_refused(self, NoNumber, desk.say, "back")

    def test_of_what_stands_behind_a_refused_one(self):
        desk = desk_at((5, 2))
        desk.say("up 0123")
        for line in ["up 0123", "up 01", "down 0234", "curve 9 9", "curve 8 2", "no line", "up 10", "curve 66 3"]:
            self.assertRaises(CurveError, desk.say, line)
        assert_told(self, "012 023 034", desk.say("back"))
        for line in ["down 0123", "curve 0 0", "back back", "face 9"]:
            self.assertRaises(CurveError, desk.say, line)
        assert_told(self, "01", desk.say("back"))
        assert_refused(self, NoNumber, desk.say, "back")
        assert_refused(self, NoNumber, desk.say, "back")
        assert_told(self, "012 023", desk.say("curve 4 2"))
        assert_told(self, "01", desk.say("back"))

    def test_what_is_asked_does_not_stand(self):
        desk = desk_at((5, 2))
        desk.say("up 0123")
        for line in QUESTIONS + ["face 01", "pane 01"]:
            desk.say(line)
        assert_told(self, "012 023 034", desk.say("back"))

    def test_a_curve_told_behind_turns_is_undone_to_the_turned_cover(self):
        desk = desk_at((5, 2))
        desk.say("up 0123")
        desk.say("curve 6 3")
        desk.say("up 01234")
        desk.say("back")
        assert_told(self, "013 034 123", desk.say("back"))
        assert_told(self, "5 2 : 013 034 123", desk.say("told"))

    def test_back_is_no_deed_that_back_undoes(self):
        desk = desk_at((4, 2))
        desk.say("up 0123")
        desk.say("back")
        assert_told(self, "01", desk.say("back"))

    def test_drawn_lines(self):
        draw = random.Random(101)
        for times in range(30):
            desk = Desk()
            curve, cover, past = (2, 1), ((0, 1),), []
            for step in range(60):
                drawn = draw.choice(["curve", "up", "up", "up", "down", "down", "back", "no line"])
                made = None
                if drawn == "curve":
                    many, deep = draw.choice(CURVES + [(3, 3), (0, 1)])
                    line = f"curve {many} {deep}"
                    if (many, deep) in SMALL_CURVES:
                        made = ((many, deep), lowest((many, deep)))
                elif drawn in ("up", "down"):
                    due = turnings(cover, curve, drawn == "up")
                    knot = draw.choice(sorted(due) if due and draw.random() < 0.8 else knots_of(curve) + [(0, 1, 2, 9)])
                    line = drawn + " " + word(knot)
                    if knot in due:
                        made = (curve, due[knot])
                else:
                    line = drawn
                if drawn == "back" and past:
                    curve, cover = past.pop()
                    assert_told(self, words(cover), desk.say(line))
                elif made:
                    past.append((curve, cover))
                    curve, cover = made
                    assert_told(self, words(cover), desk.say(line))
                else:
                    self.assertRaises(CurveError, desk.say, line)
                assert_told(self, (curve, cover), read(desk.say("told")))


NO_LINES = [
    "", " ", "  ", "-", "none", "yes", "told.", "told:", "tell", "tol", "toldd", "tol d", "Told", "TOLD", "told\n",
    "\ntold",
    "told\t", "\ttold", "told told", "told 1", "told -", "ups downs", "ups 0123", "downs -", "panes 6 3", "low low",
    "high 1", "missing 0", "counts 6 3", "steps 0", "back 1", "back back", "Back", "undo", "BACK",
    "curve", "curve 6", "curve 6 3 1", "curve 6 3 :", "curve 63", "curve 6,3", "curve 06 3", "curve 6 03", "curve 10 3",
    "curve 6 10", "curve 66 3", "curve 6 33", "curve 12 12", "curve -6 3", "curve 6 -3", "curve +6 3", "curve 6 +3",
    "curve a 3", "curve 6 b", "curve - -", "curve 6 -", "curve 6. 3", "curve six three", "Curve 6 3", "curve  6 3",
    "curve 6  3", " curve 6 3", "curve 6 3 ", "curve\t6 3", "curve 6\t3", "curve 6 3\n", "curve (6, 3)", "6 3 :", "6 3",
    "up", "up ", "up  ", "up  0123", " up 0123", "up 0123 ", "up 0 1 2 3", "up 0123 0124", "up 3210", "up 0122",
    "up 0012",
    "up 1023", "up 0132", "up 01230", "up --", "up -0", "up 0-", "up a", "up 012a", "up 0,1,2", "up 0123\n", "up\t0123",
    "Up 0123", "UP 0123", "uP 0123", "up none", "up (0, 1)", "up 012.", "up +0", "up 01_2", "up 00", "up 10",
    "down", "down ", "down  0123", "down 0123 ", "down 21", "down 11", "Down 0123", "down 0123 -", "down x",
    "face", "face ", "face  0", "face 0 1", "face 10", "face 00", "face 0 ", " face 0", "Face 0", "face --", "face f",
    "pane", "pane ", "pane  0", "pane 0 1", "pane 10", "pane 00", "pane 0 ", " pane 0", "Pane 0", "pane --", "pane p",
    "faces 01", "pane 0\n", "pane\n0", "lowest", "highest", "reach", "panes_many 6 3", "show", "quit", "x" * 200,
    "0" * 200, " " * 200, "up " + "0" * 190, "curve " + "6" * 190 + " 3", "told" + " " * 190, "9", "012",
]


class NoLineTest(unittest.TestCase):

    def refused(self, line):
        for desk in [Desk(), desk_at((5, 2))]:
            before = all_told(desk)
            assert_refused(self, NoLine, desk.say, line)
            self.assertEqual(before, all_told(desk))

    def test_texts_that_are_no_lines(self):
        for line in NO_LINES:
            self.refused(line)

    def test_things_of_other_kinds(self):
        things = [["told"], ("told",), {"told": True}, [], (), {}, None, True, False, 0, 1, GREAT, ["curve", "6", "3"],
                  ("curve", 6, 3), (6, 3), [["told"]], {"curve": ["6", "3"]}]
        for thing in things + ODD_THINGS:
            self.refused(thing)

    def test_blanks_and_words_more_or_less(self):
        lines = ALONE + ["curve 6 3"] + [name + " 01" for name in OF_A_LOT] + [name + " -" for name in OF_A_LOT]
        for line in lines:
            for odd in [line + " ", " " + line, line.replace(" ", "  ") + " ", line + " x", line + " 0", line + " -",
                        line.upper(), line.capitalize(), line + "\n", line.replace(" ", "\t") + "\t", line + "."]:
                self.refused(odd)
            if " " in line:
                for odd in [line.replace(" ", "  "), line.replace(" ", ""), line.replace(" ", "\t"),
                            line.split(" ")[0], " ".join(line.split(" ")[:-1]), " ".join(line.split(" ")[:-1]) + " ",
                            " ".join(line.split(" ")[1:])]:
                    self.refused(odd)

    def test_figures_that_do_not_rise(self):
        for name in OF_A_LOT:
            for one in range(10):
                for other in range(one + 1):
                    self.refused(f"{name} {one}{other}")

    def test_ahead_of_all_else(self):
        # No curve, no knot, nothing that could be undone; but first of all no line.
        for line in ["curve 9 9 9", "curve 99 1", "curve 0 00", "back 0", "up 98", "up 99", "face 9 9", "pane 98",
                     "down 9 8"]:
            self.refused(line)


class NothingIsChangedTest(unittest.TestCase):

    def test_what_is_refused_or_asked_changes_nothing(self):
        for curve in [(2, 1), (4, 1), (5, 2), (6, 3), (7, 4)]:
            desk = desk_at(curve)
            ups = desk.say("ups")
            if ups != "none":
                desk.say("up " + ups.split(" ")[0])
            before = all_told(desk)
            asked = ["face -", "pane -", "face 01", "pane 01"] + QUESTIONS
            refused = ["up -", "down 0", "up 9", "curve 9 9", "curve 9 1", "curve 6 5", "face 9", "pane 89", "Told", "",
                       None]
            for line in asked + refused + asked:
                try:
                    desk.say(line)
                except CurveError:
                    self.assertIn(line, refused)
                self.assertEqual(before, all_told(desk), (curve, line))

    def test_two_desks_have_nothing_in_common(self):
        one = Desk()
        other = Desk()
        one.say("curve 5 2")
        assert_told(self, "2 1 : 01", other.say("told"))
        assert_refused(self, NoNumber, other.say, "back")
        other.say("curve 5 2")
        one.say("up 0123")
        assert_told(self, "5 2 : 012 023 034", other.say("told"))
        other.say("up 0234")
        assert_told(self, "5 2 : 013 034 123", one.say("told"))
        one.say("back")
        one.say("back")
        assert_refused(self, NoNumber, one.say, "back")
        assert_told(self, "012 023 034", other.say("back"))
        assert_told(self, "2 1 : 01", Desk().say("told"))

    def test_the_same_lines_have_the_same_answers(self):
        lines = ["curve 7 3", "ups", "up 01234", "steps", "told", "back", "curve 6 2", "missing", "back", "told"]
        one, other = Desk(), Desk()
        self.assertEqual([one.say(line) for line in lines], [other.say(line) for line in lines])


if __name__ == "__main__":
    unittest.main()
