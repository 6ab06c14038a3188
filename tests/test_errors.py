"""[5]: the classes of what is refused, and how they stand under one another."""

import unittest

from curvefaces import errors

NAMES = ["NoCurve", "NoLot", "NoPane", "NoFace", "NoCell", "NoCorner", "NoNumber", "NoCounts", "NoCover", "NoTurn",
         "NoCut", "NoOrder", "TooMany", "NoText", "NoLine"]


class ErrorsTest(unittest.TestCase):

    def test_the_base_stands_under_value_error(self):
        self.assertEqual((ValueError,), errors.CurveError.__bases__)

    def test_all_fifteen_stand_right_under_the_base(self):
        for name in NAMES:
            with self.subTest(name=name):
                self.assertEqual((errors.CurveError,), getattr(errors, name).__bases__)

    def test_none_stands_under_another(self):
        classes = [getattr(errors, name) for name in NAMES]
        for one in classes:
            under = [other.__name__ for other in classes if issubclass(one, other)]
            self.assertEqual([one.__name__], under)

    def test_there_are_no_more_and_each_is_defined_there(self):
        told = [name for name, thing in vars(errors).items() if isinstance(thing, type)]
        self.assertEqual(sorted(NAMES + ["CurveError"]), sorted(told))
        for name in told:
            self.assertEqual("curvefaces.errors", getattr(errors, name).__module__)
            self.assertEqual(name, getattr(errors, name).__name__)

    def test_each_is_made_of_a_text(self):
        for name in NAMES + ["CurveError"]:
            self.assertEqual("some text", str(getattr(errors, name)("some text")))


if __name__ == "__main__":
    unittest.main()
