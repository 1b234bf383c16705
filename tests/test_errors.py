"""Point 1 and the interface: the refusals."""

import unittest

from tests.refusals import REFUSALS, refused
from timestretch import errors
from timestretch.clocks import gathered
from timestretch.letters import aged, brought, checked
from timestretch.notes import read
from timestretch.sure import lasting, sure
from timestretch.watches import Watch


class ErrorClasses(unittest.TestCase):
    def test_a_refusal_is_a_value_error(self):
        self.assertEqual(errors.StretchError.__bases__, (ValueError,))

    def test_each_class_stands_straight_under_stretch_error(self):
        for kind in REFUSALS:
            with self.subTest(kind=kind.__name__):
                self.assertEqual(kind.__bases__, (errors.StretchError,))

    def test_the_ten_classes_are_defined_in_errors_under_their_names(self):
        names = "BadName BadLetter BadOff TooEarly BadCount NoAgreement TooWide TooMany NoClock NoText"
        self.assertEqual([kind.__name__ for kind in REFUSALS], names.split())
        for kind in (errors.StretchError, *REFUSALS):
            self.assertEqual(kind.__module__, "timestretch.errors")

    def test_no_class_catches_another_one(self):
        for kind in REFUSALS:
            for other in REFUSALS:
                self.assertEqual(issubclass(kind, other), kind is other)


class Refusals(unittest.TestCase):
    """Each refusal is caught by its own class, StretchError and ValueError, and by no other."""

    def test_each_refusal_of_its_own_class(self):
        letter = ("ada", 10, 20, 100, 110)
        cases = (
            (errors.BadName, checked, ("", 10, 20, 100, 110)),
            (errors.BadLetter, checked, ("ada", 21, 20, 100, 110)),
            (errors.BadOff, aged, (0, 1), 5, 1000),
            (errors.TooEarly, aged, (0, 1), -1, 5),
            (errors.BadOff, brought, letter, 20, -1),
            (errors.TooEarly, brought, letter, 19, 5),
            (errors.BadOff, gathered, [letter], 20, 1000),
            (errors.TooEarly, gathered, [letter], 19, 5),
            (errors.BadOff, sure, [letter], 20, 1000),
            (errors.TooEarly, sure, [letter], 19, 5),
            (errors.NoAgreement, sure, [], 19, 5),
            (errors.BadCount, sure, [letter], 20, 5, 1),
            (errors.NoAgreement, sure, [letter, ("bob", 10, 20, 500, 510)], 20, 5, 0),
            (errors.BadOff, lasting, (0, 1), -1, 1),
            (errors.TooWide, lasting, (0, 1), 5, 0),
            (errors.BadOff, Watch, 1000),
            (errors.BadName, Watch(0).put, ("", 10, 20, 100, 110)),
            (errors.BadLetter, Watch(0).put, ("ada", 21, 20, 100, 110)),
            (errors.NoClock, Watch(0).drop, "ada"),
            (errors.NoAgreement, Watch(0).told, 20),
            (errors.NoText, read, "ada"),
            (errors.BadName, read, "Ada sent 10 back 20 swears 100 to 110\n"),
            (errors.BadLetter, read, "ada sent 21 back 20 swears 100 to 110\n"),
        )
        for kind, action, *given in cases:
            with self.subTest(kind=kind.__name__, action=action.__name__):
                refused(self, kind, action, *given)


if __name__ == "__main__":
    unittest.main()
