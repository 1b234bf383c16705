"""Points 1 to 7: letters, the slack, aged and brought."""

import unittest

from tests.refusals import refused
from timestretch.errors import BadLetter, BadName, BadOff, TooEarly
from timestretch.letters import aged, brought, checked

GREATEST = 1000000000000


def slack(passed, off):
    """The slack that aged grants: how far it moves the stretch of nought alone."""
    low, high = aged((0, 0), passed, off)
    return (passed - low, high - passed)


class CheckedGivesBack(unittest.TestCase):
    """Points 2, 3 and 4: what holds to 3 is given back, the very letter."""

    def test_letters_that_hold(self):
        cases = (
            ("ada", 10, 20, 100, 110),
            ("ada", 0, 0, 0, 0),
            ("ada", GREATEST, GREATEST, GREATEST, GREATEST),
            ("ada", 0, GREATEST, 0, GREATEST),
            ("ada", 7, 7, 3, 9),
            ("ada", 7, 8, 9, 9),
            ("ada", 500, 600, 1, 2),
            ("ada", 1, 2, 500, 600),
            ("a", 1, 2, 3, 4),
            ("z", 1, 2, 3, 4),
            ("abcdefghijkl", 1, 2, 3, 4),
            ("mnopqrstuvwx", 1, 2, 3, 4),
            ("yz", 1, 2, 3, 4),
        )
        for letter in cases:
            with self.subTest(letter=letter):
                self.assertIs(checked(letter), letter)


class CheckedRefuses(unittest.TestCase):
    """Points 3 and 4: BadName ahead of all else, then BadLetter."""

    def test_name_of_wrong_length(self):
        for name in ("", "abcdefghijklm", "a" * 14, "a" * 100):
            with self.subTest(name=name):
                refused(self, BadName, checked, (name, 1, 2, 3, 4))

    def test_name_with_another_sign(self):
        signs = " !-_.,'`{|}~@[09AZ\n\t"
        for sign in signs:
            for name in (sign, sign + "ada", "ad" + sign + "a", "ada" + sign):
                with self.subTest(name=name):
                    refused(self, BadName, checked, (name, 1, 2, 3, 4))

    def test_wrong_name_is_told_ahead_of_wrong_numbers(self):
        for name in ("", "abcdefghijklm", "Ada", "a1", "a b"):
            for numbers in ((-1, 2, 3, 4), (2, 1, 3, 4), (1, 2, 4, 3), (1, 2, 3, GREATEST + 1)):
                with self.subTest(name=name, numbers=numbers):
                    refused(self, BadName, checked, (name, *numbers))

    def test_number_below_nought(self):
        for numbers in ((-1, 2, 3, 4), (-1, -1, 3, 4), (1, 2, -1, 4), (1, 2, -2, -1), (1, -1, 3, 4), (1, 2, 3, -1)):
            with self.subTest(numbers=numbers):
                refused(self, BadLetter, checked, ("ada", *numbers))

    def test_number_above_the_greatest(self):
        above = GREATEST + 1
        for numbers in ((1, above, 3, 4), (above, above, 3, 4), (1, 2, 3, above), (1, 2, above, above)):
            with self.subTest(numbers=numbers):
                refused(self, BadLetter, checked, ("ada", *numbers))

    def test_numbers_out_of_order(self):
        for numbers in ((3, 2, 3, 4), (1, 2, 5, 4), (GREATEST, 0, 0, 0), (0, 0, GREATEST, 0)):
            with self.subTest(numbers=numbers):
                refused(self, BadLetter, checked, ("ada", *numbers))


class Off(unittest.TestCase):
    """Point 5: the bounds of off, and the slack."""

    def test_bounds_are_taken(self):
        self.assertEqual(aged((5, 6), 10, 0), (15, 16))
        self.assertEqual(aged((5, 6), 1000, 999), (6, 2005))
        self.assertEqual(brought(("ada", 0, 0, 5, 6), 10, 0), (15, 16))
        self.assertEqual(brought(("ada", 0, 0, 5, 6), 1000, 999), (6, 2005))

    def test_out_of_bounds(self):
        for off in (-1000, -1, 1000, 1001, 10**20):
            with self.subTest(off=off):
                refused(self, BadOff, aged, (5, 6), 10, off)
                refused(self, BadOff, aged, (5, 6), 0, off)
                refused(self, BadOff, brought, ("ada", 1, 2, 3, 4), 10, off)

    def test_out_of_bounds_is_told_ahead_of_too_early(self):
        for off in (-1, 1000):
            with self.subTest(off=off):
                refused(self, BadOff, aged, (5, 6), -1, off)
                refused(self, BadOff, brought, ("ada", 1, 2, 3, 4), 1, off)

    def test_slack_about_a_multiple_of_a_thousand(self):
        cases = (
            (999, 1, 1), (1000, 1, 1), (1001, 1, 2),
            (27, 37, 1), (125, 8, 1), (143, 7, 2),
            (1, 999, 1), (1, 1, 1), (2, 500, 1), (3, 667, 3), (4, 500, 2),
            (667, 3, 3), (2000, 500, 1000), (1999, 500, 1000), (2001, 500, 1001),
        )
        for passed, off, least in cases:
            with self.subTest(passed=passed, off=off):
                self.assertEqual(slack(passed, off), (least, least))

    def test_slack_of_no_ticks_and_of_no_off(self):
        for off in (0, 1, 500, 999):
            self.assertEqual(slack(0, off), (0, 0))
        for passed in (1, 999, 1000, GREATEST):
            self.assertEqual(slack(passed, 0), (0, 0))

    def test_slack_is_the_least_number_not_below_the_share(self):
        for passed in (*range(0, 60), 997, 998, 999, 1000, 1001, 1002, 3000):
            for off in (0, 1, 2, 3, 10, 125, 333, 500, 667, 998, 999):
                least = 0
                while least * 1000 < passed * off:
                    least += 1
                self.assertEqual(slack(passed, off), (least, least), (passed, off))

    def test_slack_of_great_numbers_is_exact(self):
        self.assertEqual(slack(10**18, 1), (10**15, 10**15))
        self.assertEqual(slack(10**18 + 1, 1), (10**15 + 1, 10**15 + 1))
        self.assertEqual(slack(10**18 - 1, 1), (10**15, 10**15))


class Aged(unittest.TestCase):
    """Point 6."""

    def test_nothing_passed(self):
        for stretch in ((3, 9), (4, 4), (-9, -3), (0, 0)):
            self.assertEqual(aged(stretch, 0, 999), stretch)

    def test_some_passed(self):
        self.assertEqual(aged((100, 110), 50, 100), (145, 165))
        self.assertEqual(aged((100, 110), 51, 100), (145, 167))
        self.assertEqual(aged((100, 110), 1, 1), (100, 112))

    def test_one_time_alone(self):
        self.assertEqual(aged((100, 100), 50, 0), (150, 150))
        self.assertEqual(aged((100, 100), 50, 20), (149, 151))

    def test_stretches_below_nought(self):
        self.assertEqual(aged((-110, -100), 50, 100), (-65, -45))
        self.assertEqual(aged((-5, 5), 3, 1), (-3, 9))
        self.assertEqual(aged((-100, -100), 50, 20), (-51, -49))

    def test_passed_below_nought(self):
        for passed in (-1, -1000, -(10**20)):
            for off in (0, 5, 999):
                refused(self, TooEarly, aged, (3, 9), passed, off)


class Brought(unittest.TestCase):
    """Point 7."""

    def test_now_equal_to_back(self):
        self.assertEqual(brought(("ada", 10, 20, 100, 110), 20, 0), (100, 120))
        self.assertEqual(brought(("ada", 10, 20, 100, 110), 20, 100), (100, 121))
        self.assertEqual(brought(("ada", 10, 20, 100, 110), 20, 101), (100, 122))

    def test_now_later(self):
        self.assertEqual(brought(("ada", 10, 20, 100, 110), 50, 0), (130, 150))
        self.assertEqual(brought(("ada", 10, 20, 100, 110), 50, 100), (127, 154))
        self.assertEqual(brought(("ada", 10, 20, 100, 110), 51, 100), (127, 156))

    def test_now_ahead_of_back(self):
        for now in (19, 10, 9, 0, -1):
            for off in (0, 5, 999):
                refused(self, TooEarly, brought, ("ada", 10, 20, 100, 110), now, off)
        refused(self, TooEarly, brought, ("ada", 0, 0, 0, 0), -1, 0)

    def test_sent_equal_to_back(self):
        self.assertEqual(brought(("ada", 20, 20, 100, 110), 20, 999), (100, 110))
        self.assertEqual(brought(("ada", 20, 20, 100, 100), 30, 0), (110, 110))
        for later in (0, 1, 7, 1000):
            given = brought(("ada", 20, 20, 100, 110), 20 + later, 333)
            self.assertEqual(given, aged((100, 110), later, 333))

    def test_sent_below_back(self):
        # The low goes by the ticks since back, the high by those since sent.
        for sent in range(0, 21):
            given = brought(("ada", sent, 20, 100, 110), 1020, 10)
            self.assertEqual(given, (1090, aged((110, 110), 1020 - sent, 10)[1]))

    def test_great_numbers(self):
        letter = ("ada", 0, GREATEST, GREATEST, GREATEST)
        self.assertEqual(brought(letter, GREATEST, 1), (GREATEST, 2 * GREATEST + 10**9))

    def test_low_below_nought_where_the_ticks_run_far_off(self):
        self.assertEqual(brought(("ada", 0, 0, 0, 0), 1, 999), (0, 2))
        self.assertEqual(brought(("ada", 0, 0, 0, 0), 1000, 999), (1, 1999))

    def test_every_way_the_time_can_go_is_in_the_stretch(self):
        # Off 500: in p ticks at least p less the slack goes by, at most p and the slack.
        for sent, back, now in ((0, 0, 5), (0, 3, 5), (2, 3, 3), (1, 4, 9)):
            times = []
            for read in range(sent, back + 1):
                for sworn in range(10, 13):
                    low, high = aged((sworn, sworn), now - read, 500)
                    times.extend((low, high))
            self.assertEqual(brought(("ada", sent, back, 10, 12), now, 500), (min(times), max(times)))


class NothingIsChanged(unittest.TestCase):
    """Point 1: what comes is a value of the asker's own."""

    def test_kinds_of_values(self):
        for given in (aged((3, 9), 2, 5), brought(("ada", 1, 2, 3, 4), 5, 6)):
            self.assertIs(type(given), tuple)
            self.assertEqual([type(number) for number in given], [int, int])

    def test_asked_again_it_is_the_same(self):
        letter = ("ada", 10, 20, 100, 110)
        stretch = (3, 9)
        first = (aged(stretch, 7, 5), brought(letter, 50, 5))
        refused(self, TooEarly, brought, letter, 0, 5)
        self.assertEqual((aged(stretch, 7, 5), brought(letter, 50, 5)), first)
        self.assertEqual((letter, stretch), (("ada", 10, 20, 100, 110), (3, 9)))


if __name__ == "__main__":
    unittest.main()
