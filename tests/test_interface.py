"""The interface: names, arguments, and the file in which each is defined."""

import inspect
import unittest

from timestretch import clocks, letters

INTERFACE = (
    (letters, "checked", "(letter)"),
    (letters, "aged", "(stretch, passed, off)"),
    (letters, "brought", "(letter, now, off)"),
    (clocks, "gathered", "(letters, now, off)"),
)


class Interface(unittest.TestCase):
    def test_functions_stand_where_they_are_listed(self):
        for module, name, arguments in INTERFACE:
            with self.subTest(name=name):
                function = getattr(module, name)
                self.assertEqual(function.__module__, module.__name__)
                self.assertEqual(str(inspect.signature(function)), arguments)

    def test_arguments_are_taken_by_their_names(self):
        letter = ("ada", 1, 2, 3, 4)
        self.assertIs(letters.checked(letter=letter), letter)
        self.assertEqual(letters.aged(off=0, passed=2, stretch=(3, 4)), (5, 6))
        self.assertEqual(letters.brought(off=0, now=2, letter=letter), (3, 5))
        self.assertEqual(clocks.gathered(off=0, now=2, letters=[letter]), [("ada", (3, 5))])


if __name__ == "__main__":
    unittest.main()
