"""Point 8: gathered."""

import itertools
import unittest

from tests.refusals import refused
from tests.samples import exact
from timestretch.clocks import gathered
from timestretch.errors import BadOff, TooEarly
from timestretch.letters import brought


def times(letters, name, now, off):
    """All times that the stretches of all letters of that name have, one by one."""
    rows = []
    for letter in letters:
        if letter[0] == name:
            low, high = brought(letter, now, off)
            rows.append(set(range(low, high + 1)))
    return set.intersection(*rows)


class Gathered(unittest.TestCase):
    def test_no_letters(self):
        self.assertEqual(gathered([], 0, 0), [])
        self.assertEqual(gathered([], -5, 999), [])

    def test_one_letter(self):
        self.assertEqual(gathered([("ada", 10, 20, 100, 110)], 50, 100), [("ada", (127, 154))])

    def test_two_letters_of_one_clock_stand_for_what_both_have(self):
        self.assertEqual(gathered([exact("ada", 1, 8), exact("ada", 5, 12)], 0, 0), [("ada", (5, 8))])
        self.assertEqual(gathered([exact("ada", 5, 12), exact("ada", 1, 8)], 0, 0), [("ada", (5, 8))])
        self.assertEqual(gathered([exact("ada", 1, 12), exact("ada", 5, 8)], 0, 0), [("ada", (5, 8))])
        self.assertEqual(gathered([exact("ada", 5, 8), exact("ada", 1, 12)], 0, 0), [("ada", (5, 8))])

    def test_the_same_letter_twice(self):
        self.assertEqual(gathered([exact("ada", 1, 8)] * 2, 0, 0), [("ada", (1, 8))])

    def test_names_in_the_order_in_which_they_come_first(self):
        letters = [
            exact("zoe", 10, 30),
            exact("ada", 40, 60),
            exact("zoe", 20, 50),
            exact("max", 0, 5),
            exact("ada", 0, 45),
            exact("max", 6, 9),
            exact("zoe", 0, 25),
            exact("bob", 7, 7),
        ]
        told = [("zoe", (20, 25)), ("ada", (40, 45)), ("max", None), ("bob", (7, 7))]
        self.assertEqual(gathered(letters, 0, 0), told)

    def test_one_time_in_common(self):
        self.assertEqual(gathered([exact("ada", 1, 5), exact("ada", 5, 9)], 0, 0), [("ada", (5, 5))])
        self.assertEqual(gathered([exact("ada", 5, 9), exact("ada", 1, 5)], 0, 0), [("ada", (5, 5))])

    def test_no_time_in_common(self):
        self.assertEqual(gathered([exact("ada", 1, 4), exact("ada", 5, 9)], 0, 0), [("ada", None)])
        self.assertEqual(gathered([exact("ada", 5, 9), exact("ada", 1, 4)], 0, 0), [("ada", None)])

    def test_no_time_in_all_though_each_meets_another(self):
        letters = [exact("ada", 1, 4), exact("ada", 3, 8), exact("ada", 6, 9)]
        for rows in itertools.permutations(letters):
            self.assertEqual(gathered(list(rows), 0, 0), [("ada", None)])

    def test_wrong_once_is_wrong_whatever_comes_behind(self):
        letters = [exact("ada", 1, 2), exact("ada", 8, 9), exact("ada", 1, 9), exact("ada", 8, 9)]
        self.assertEqual(gathered(letters, 0, 0), [("ada", None)])

    def test_one_wrong_clock_leaves_the_others_alone(self):
        letters = [exact("ada", 1, 2), exact("bob", 8, 9), exact("ada", 8, 9), exact("bob", 9, 10)]
        self.assertEqual(gathered(letters, 0, 0), [("ada", None), ("bob", (9, 9))])

    def test_letters_of_different_counts_are_brought_to_now(self):
        # As sworn they have nothing in common; at the count 100 they meet.
        letters = [("ada", 0, 0, 1000, 1010), ("ada", 90, 95, 1085, 1095)]
        self.assertEqual(gathered(letters, 100, 0), [("ada", (1100, 1105))])
        # As sworn they are the same; at the count 100 they are far apart.
        letters = [("ada", 0, 0, 1000, 1010), ("ada", 90, 90, 1000, 1010)]
        self.assertEqual(gathered(letters, 100, 0), [("ada", None)])

    def test_the_slack_counts(self):
        letters = [exact("ada", 100, 110), exact("ada", 112, 120)]
        self.assertEqual(gathered(letters, 10, 0), [("ada", None)])
        self.assertEqual(gathered(letters, 10, 100), [("ada", (121, 121))])
        self.assertEqual(gathered(letters, 11, 100), [("ada", (121, 123))])

    def test_against_times_counted_one_by_one(self):
        ends = [(0, 2), (1, 1), (2, 5), (3, 4), (4, 9)]
        legs = [(0, 0), (0, 3), (2, 3)]
        swears = [(*leg, *end) for leg in legs for end in ends]
        for first, second, third in itertools.product(swears, repeat=3):
            letters = [("bob", *first), ("ada", *second), ("bob", *third)]
            for now, off in ((3, 0), (5, 300)):
                pairs = gathered(letters, now, off)
                self.assertEqual([name for name, _ in pairs], ["bob", "ada"])
                for name, stretch in pairs:
                    held = times(letters, name, now, off)
                    self.assertEqual(stretch, (min(held), max(held)) if held else None)

    def test_as_many_letters_and_names_as_are_promised(self):
        names = [a + b for a in "abcdefgh" for b in "vwxyz"]
        letters = [exact(name, k, 100 + k) for k in range(5) for name in names]
        self.assertEqual(len(letters), 200)
        self.assertEqual(gathered(letters, 0, 0), [(name, (4, 100)) for name in names])


class GatheredRefuses(unittest.TestCase):
    def test_off_out_of_bounds(self):
        for off in (-1, 1000):
            refused(self, BadOff, gathered, [exact("ada", 1, 2)], 5, off)

    def test_off_out_of_bounds_with_no_letters(self):
        for off in (-1, 1000):
            refused(self, BadOff, gathered, [], 5, off)

    def test_off_out_of_bounds_is_told_ahead_of_too_early(self):
        for off in (-1, 1000):
            refused(self, BadOff, gathered, [("ada", 0, 9, 1, 2)], 5, off)

    def test_a_letter_with_back_above_now_wherever_it_stands(self):
        late = ("bob", 0, 9, 1, 2)
        others = [exact("ada", 1, 2), exact("cyd", 1, 2)]
        for at in range(3):
            letters = others[:at] + [late] + others[at:]
            refused(self, TooEarly, gathered, letters, 8, 0)
            self.assertEqual(len(gathered(letters, 9, 0)), 3)

    def test_a_letter_with_back_above_now_of_a_clock_that_is_wrong_already(self):
        letters = [exact("ada", 1, 2), exact("ada", 8, 9), ("ada", 0, 9, 1, 2)]
        refused(self, TooEarly, gathered, letters, 8, 0)

    def test_now_below_nought(self):
        refused(self, TooEarly, gathered, [exact("ada", 1, 2)], -1, 0)


class NothingIsChanged(unittest.TestCase):
    """Point 1: what is handed in stays as it was; what is given back is the asker's own."""

    def test_what_is_handed_in_stays_as_it_was(self):
        letters = [exact("ada", 1, 8), exact("bob", 8, 9), exact("ada", 5, 12), exact("bob", 1, 2)]
        before = list(letters)
        gathered(letters, 0, 0)
        self.assertEqual(letters, before)
        refused(self, TooEarly, gathered, letters, -1, 0)
        self.assertEqual(letters, before)
        for letter, old in zip(letters, before):
            self.assertIs(letter, old)

    def test_what_is_given_back_is_the_askers_own(self):
        letters = [exact("ada", 1, 8), exact("bob", 8, 9)]
        told = [("ada", (1, 8)), ("bob", (8, 9))]
        first = gathered(letters, 0, 0)
        letters.append(exact("cyd", 1, 2))
        self.assertEqual(first, told)
        first.clear()
        self.assertEqual(gathered(letters[:2], 0, 0), told)
        empty = gathered([], 0, 0)
        empty.append(("ada", None))
        self.assertEqual(gathered([], 0, 0), [])

    def test_kinds_of_values(self):
        pairs = gathered([exact("ada", 1, 8), exact("ada", 2, 9)], 0, 0)
        self.assertIs(type(pairs), list)
        self.assertIs(type(pairs[0]), tuple)
        self.assertIs(type(pairs[0][1]), tuple)


if __name__ == "__main__":
    unittest.main()
