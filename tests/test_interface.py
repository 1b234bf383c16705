"""The interface: names, arguments, and the file in which each is defined."""

import inspect
import unittest

from tests.samples import LETTER
from timestretch import clocks, counts, letters, notes, sure, watches

INTERFACE = (
    (letters, "checked", "(letter)"),
    (letters, "aged", "(stretch, passed, off)"),
    (letters, "brought", "(letter, now, off)"),
    (clocks, "gathered", "(letters, now, off)"),
    (counts, "bearers", "(clocks, point)"),
    (counts, "parts", "(clocks, need)"),
    (counts, "fewest", "(clocks)"),
    (sure, "sure", "(letters, now, off, bad=None)"),
    (sure, "lasting", "(stretch, off, width)"),
    (notes, "written", "(letters)"),
    (notes, "read", "(text)"),
)
METHODS = (
    ("__init__", "(self, off)"),
    ("put", "(self, letter)"),
    ("drop", "(self, name)"),
    ("told", "(self, now, bad=None)"),
)


class Interface(unittest.TestCase):
    def test_functions_stand_where_they_are_listed(self):
        for module, name, arguments in INTERFACE:
            with self.subTest(name=name):
                function = getattr(module, name)
                self.assertTrue(inspect.isfunction(function))
                self.assertEqual(function.__module__, module.__name__)
                self.assertEqual(str(inspect.signature(function)), arguments)

    def test_watch_and_its_methods_stand_where_they_are_listed(self):
        self.assertTrue(inspect.isclass(watches.Watch))
        self.assertEqual(watches.Watch.__module__, watches.__name__)
        for name, arguments in METHODS:
            with self.subTest(name=name):
                method = vars(watches.Watch)[name]
                self.assertEqual(method.__qualname__, "Watch." + name)
                self.assertEqual(str(inspect.signature(method)), arguments)

    def test_arguments_are_taken_by_their_names(self):
        letter = ("ada", 1, 2, 3, 4)
        self.assertIs(letters.checked(letter=letter), letter)
        self.assertEqual(letters.aged(off=0, passed=2, stretch=(3, 4)), (5, 6))
        self.assertEqual(letters.brought(off=0, now=2, letter=letter), (3, 5))
        self.assertEqual(clocks.gathered(off=0, now=2, letters=[letter]), [("ada", (3, 5))])

    def test_arguments_of_the_later_functions_are_taken_by_their_names(self):
        pairs = [("ada", (3, 5))]
        self.assertEqual(counts.bearers(point=3, clocks=pairs), ["ada"])
        self.assertEqual(counts.parts(need=1, clocks=pairs), [(3, 5)])
        self.assertEqual(counts.fewest(clocks=pairs), (0, 3))
        self.assertEqual(sure.sure(bad=0, off=0, now=20, letters=[LETTER])[:2], (100, 120))
        self.assertEqual(sure.lasting(width=4, off=500, stretch=(3, 5)), 2)
        self.assertEqual(notes.read(text=notes.written(letters=[LETTER])), [LETTER])


if __name__ == "__main__":
    unittest.main()
