"""Point 1 over the whole program: what is handed in and what is given back."""

import copy
import unittest

from tests.samples import exact
from timestretch.clocks import gathered
from timestretch.counts import bearers, fewest, parts
from timestretch.errors import StretchError
from timestretch.letters import aged, brought, checked
from timestretch.notes import read, written
from timestretch.sure import lasting, sure
from timestretch.watches import Watch

LETTERS = [exact("ada", 1, 8), exact("bob", 80, 90), exact("cyd", 5, 12), exact("cyd", 1, 7), exact("eva", 6, 6)]
CLOCKS = [("ada", (-1, 8)), ("bob", (80, 90)), ("cyd", (5, 7)), ("eva", None)]
TEXT = written(LETTERS)


def kept_watch(*more):
    """A watch of the letters, and of more."""
    watch = Watch(0)
    for letter in (*LETTERS, *more):
        watch.put(letter)
    return watch


# Each is asked again and again; what is handed in is a list of the caller's own.
ASKED = (
    (gathered, LETTERS, 0, 0),
    (gathered, [], 0, 0),
    (bearers, CLOCKS, 6),
    (bearers, CLOCKS, 100),
    (parts, CLOCKS, 1),
    (parts, CLOCKS, 4),
    (fewest, CLOCKS),
    (sure, LETTERS, 0, 0),
    (sure, LETTERS, 0, 0, 3),
    (written, LETTERS),
    (read, TEXT),
    (read, ""),
    (aged, (-3, 9), 7, 5),
    (brought, LETTERS[0], 50, 5),
    (lasting, (-3, 9), 5, 70),
)
REFUSED = (
    (gathered, LETTERS, -1, 0),
    (gathered, LETTERS, 0, 1000),
    (sure, LETTERS, 0, 0, 0),
    (sure, LETTERS, 0, 0, 4),
    (sure, LETTERS, -1, 0),
    (sure, [], 0, 0),
    (checked, ("ada", 2, 1, 3, 4)),
    (lasting, (-3, 9), 5, 7),
    (read, TEXT + "\n"),
)


def emptied(value):
    """Empty each list in what was given back."""
    if isinstance(value, (list, tuple)):
        for part in value:
            emptied(part)
    if isinstance(value, list):
        value.clear()


class HandedIn(unittest.TestCase):
    def test_it_stays_as_it_was(self):
        for action, *given in ASKED:
            with self.subTest(action=action.__name__, given=given):
                before = copy.deepcopy(given)
                action(*given)
                self.assertEqual(given, before)

    def test_it_stays_as_it_was_where_it_is_refused(self):
        for action, *given in REFUSED:
            with self.subTest(action=action.__name__, given=given):
                before = copy.deepcopy(given)
                with self.assertRaises(StretchError):
                    action(*given)
                self.assertEqual(given, before)


class GivenBack(unittest.TestCase):
    def test_emptied_and_asked_again_it_is_the_same(self):
        for action, *given in ASKED:
            with self.subTest(action=action.__name__, given=given):
                told = copy.deepcopy(action(*given))
                first = action(*given)
                second = action(*given)
                emptied(first)
                self.assertEqual(second, told)
                self.assertEqual(action(*given), told)

    def test_it_shares_no_list_with_what_was_handed_in(self):
        for action, *given in ASKED:
            with self.subTest(action=action.__name__, given=given):
                mine = copy.deepcopy(given)
                told = action(*mine)
                emptied(mine)
                self.assertEqual(told, action(*given))

    def test_a_letter_is_the_very_one(self):
        for letter in LETTERS:
            self.assertIs(checked(letter), letter)

    def test_what_a_watch_gives(self):
        watch = kept_watch()
        told = copy.deepcopy(watch.told(0))
        first, second = watch.told(0), watch.told(0)
        emptied(first)
        self.assertEqual((second, watch.told(0)), (told, told))
        self.assertEqual(watch.letters, LETTERS)
        watch.drop("ada")
        watch.put(exact("bob", 81, 82))
        self.assertEqual(second, told)

    def test_what_a_watch_holds_is_not_changed_by_other_functions(self):
        watch = kept_watch()
        for action in (gathered, sure):
            emptied(action(watch.letters, 0, 0))
        written(watch.letters)
        self.assertEqual(watch.letters, LETTERS)


class Together(unittest.TestCase):
    """The functions agree with one another, whatever was asked ahead."""

    def test_a_watch_written_and_read_tells_the_same(self):
        watch = kept_watch(exact("zoe", 0, 100))
        other = Watch(0)
        for letter in read(written(watch.letters)):
            other.put(letter)
        self.assertEqual(other.letters, watch.letters)
        self.assertEqual(other.told(9, 2), watch.told(9, 2))

    def test_order_of_asking_does_not_matter(self):
        forth = [copy.deepcopy(action(*given)) for action, *given in ASKED]
        back = [copy.deepcopy(action(*given)) for action, *given in ASKED[::-1]]
        self.assertEqual(forth, back[::-1])

    def test_fewest_tells_which_bad_is_enough(self):
        clocks = gathered(LETTERS, 0, 0)
        wrong, point = fewest(clocks)
        self.assertEqual((wrong, point), (1, 6))
        self.assertEqual(sure(LETTERS, 0, 0, wrong), (6, 6, ["bob"], [(6, 6)]))
        self.assertEqual(bearers(clocks, point), ["ada", "cyd", "eva"])
        with self.assertRaises(StretchError):
            sure(LETTERS, 0, 0, wrong - 1)

    def test_a_sure_stretch_aged_as_long_as_it_lasts(self):
        low, high, _, _ = sure(LETTERS, 0, 100)
        ticks = lasting((low, high), 100, 20)
        first, last = aged((low, high), ticks, 100)
        self.assertLessEqual(last - first, 20)
        first, last = aged((low, high), ticks + 1, 100)
        self.assertGreater(last - first, 20)


if __name__ == "__main__":
    unittest.main()
