"""Points 12 to 15: sure and lasting."""

import itertools
import unittest

from tests.refusals import refused
from tests.samples import exact, named, names, runs
from timestretch.clocks import gathered
from timestretch.counts import bearers, parts
from timestretch.errors import BadCount, BadOff, NoAgreement, TooEarly, TooWide
from timestretch.letters import aged
from timestretch.sure import lasting, sure

GREATEST = 1000000000000
# Apart, touching in one time, one tick apart, within one another, of one time, none.
SHAPES = ((1, 3), (3, 5), (4, 4), (6, 8), (2, 9), None)
TIMES = range(0, 11)


def letters_of(clocks):
    """Letters that at the count nought with off nought gather to these clocks."""
    letters = []
    for name, stretch in clocks:
        if stretch is None:
            letters.extend((exact(name, 1, 2), exact(name, 8, 9)))
        else:
            letters.append(exact(name, *stretch))
    return letters


def told(stretches, bad=None):
    """What is sure of clocks a, b, c .. with these stretches."""
    return sure(letters_of(named(*stretches)), 0, 0, bad)


class Sure(unittest.TestCase):
    """Point 12."""

    def test_one_clock(self):
        self.assertEqual(told([(3, 7)]), (3, 7, [], [(3, 7)]))
        self.assertEqual(told([(3, 7)], 0), (3, 7, [], [(3, 7)]))
        self.assertEqual(told([(5, 5)]), (5, 5, [], [(5, 5)]))

    def test_letters_are_brought_to_now(self):
        letters = [("ada", 10, 20, 100, 110), ("bob", 12, 18, 90, 95)]
        self.assertEqual(sure(letters, 50, 0, 1), (122, 150, [], [(122, 150)]))
        self.assertEqual(sure(letters, 50, 0, 0), (130, 133, [], [(130, 133)]))
        self.assertEqual(sure(letters, 50, 100, 0), (127, 137, [], [(127, 137)]))

    def test_as_sworn_apart_and_at_now_together(self):
        letters = [("ada", 0, 0, 1000, 1010), ("bob", 90, 95, 1085, 1095)]
        self.assertEqual(sure(letters, 100, 0), (1100, 1105, [], [(1100, 1105)]))

    def test_bad_left_out_is_bad_none(self):
        letters = letters_of(named((1, 6), (3, 9), (20, 30)))
        self.assertEqual(sure(letters, 0, 0), (3, 6, ["c"], [(3, 6)]))
        self.assertEqual(sure(letters, 0, 0, None), sure(letters, 0, 0))
        self.assertEqual(sure(letters, 0, 0, bad=None), sure(letters, 0, 0))
        self.assertEqual(sure(letters, now=0, off=0, bad=2), sure(letters, 0, 0, 2))

    def test_bad_none_is_as_many_as_fewer_than_half_can_be(self):
        for many, bad in ((1, 0), (2, 0), (3, 1), (4, 1), (5, 2), (6, 2), (7, 3), (8, 3), (39, 19), (40, 19)):
            letters = [exact(name, k, 1000 + k) for k, name in enumerate(names(many))]
            with self.subTest(many=many):
                low, high, wrong, some = sure(letters, 0, 0)
                self.assertEqual((low, high), (many - bad - 1, 1000 + bad))
                self.assertEqual((wrong, some), ([], [(low, high)]))
                self.assertEqual(sure(letters, 0, 0), sure(letters, 0, 0, bad))

    def test_bad_nought_asks_for_all(self):
        self.assertEqual(told([(1, 6), (3, 9), (2, 4)], 0), (3, 4, [], [(3, 4)]))
        self.assertEqual(told([(1, 6), (3, 9), (6, 9)], 0), (6, 6, [], [(6, 6)]))

    def test_bad_one_less_than_there_are_asks_for_one(self):
        self.assertEqual(told([(1, 6), (3, 9), (20, 22)], 2), (1, 22, [], [(1, 9), (20, 22)]))
        self.assertEqual(told([(20, 22), (1, 2)], 1), (1, 22, [], [(1, 2), (20, 22)]))

    def test_several_stretches_in_some(self):
        stretches = [(1, 4), (2, 5), (20, 24), (22, 29), (40, 40)]
        self.assertEqual(told(stretches, 3), (2, 24, ["e"], [(2, 4), (22, 24)]))
        stretches = [(0, 50), (10, 12), (20, 22), (30, 32)]
        self.assertEqual(told(stretches, 2), (10, 32, [], [(10, 12), (20, 22), (30, 32)]))

    def test_one_tick_apart_they_are_one_stretch(self):
        self.assertEqual(told([(0, 9), (1, 4), (5, 8)]), (1, 8, [], [(1, 8)]))
        self.assertEqual(told([(0, 9), (1, 3), (5, 8)]), (1, 8, [], [(1, 3), (5, 8)]))

    def test_wrong_are_those_that_bear_no_time_of_some(self):
        # c ends one tick ahead of it, d begins one tick behind it, e and f touch its ends.
        stretches = [(3, 6), (3, 6), (1, 2), (7, 9), (0, 3), (6, 9), (3, 6)]
        self.assertEqual(told(stretches, 4), (3, 6, ["c", "d"], [(3, 6)]))

    def test_a_clock_that_bears_a_time_of_any_stretch_of_some_is_not_told(self):
        stretches = [(1, 4), (1, 4), (8, 9), (8, 9), (6, 6), (4, 5), (7, 8), (5, 7)]
        some = [(1, 4), (8, 9)]
        self.assertEqual(told(stretches, 6), (1, 9, [], [(1, 9)]))
        self.assertEqual(told(stretches[:5], 3), (1, 9, ["e"], some))
        self.assertEqual(told(stretches[:4] + [(4, 5), (7, 8), (6, 6)], 5), (1, 9, ["g"], some))

    def test_wrong_in_the_order_of_the_clocks(self):
        letters = [exact("zoe", 50, 60), exact("max", 1, 4), exact("ada", 70, 80), exact("eva", 2, 5)]
        letters.extend([exact("bob", 0, 3), exact("zoe", 40, 55)])
        self.assertEqual(sure(letters, 0, 0, 2), (2, 3, ["zoe", "ada"], [(2, 3)]))
        self.assertEqual(sure(letters[::-1], 0, 0, 2), (2, 3, ["zoe", "ada"], [(2, 3)]))
        self.assertEqual(sure(letters[4::-1], 0, 0, 2), (2, 3, ["ada", "zoe"], [(2, 3)]))

    def test_a_clock_whose_letters_are_in_no_agreement_counts_and_is_wrong(self):
        self.assertEqual(told([(1, 6), None, (3, 9)]), (3, 6, ["b"], [(3, 6)]))
        self.assertEqual(told([None, (3, 9)], 1), (3, 9, ["a"], [(3, 9)]))
        # Three clocks of which one bears none: with none wrong they do not agree.
        refused(self, NoAgreement, told, [(1, 6), None, (3, 9)], 0)

    def test_a_clock_counts_once_however_many_letters_it_has(self):
        letters = [exact("ada", 1, 4)] * 5 + [exact("bob", 8, 9)]
        self.assertEqual(sure(letters, 0, 0, 1), (1, 9, [], [(1, 4), (8, 9)]))
        refused(self, NoAgreement, sure, letters, 0, 0)

    def test_the_slack_takes_low_down_to_nought(self):
        letters = [("ada", 0, 1, 0, 0), ("bob", 0, 0, 0, 3)]
        self.assertEqual(sure(letters, 1, 999, 1), (0, 5, [], [(0, 5)]))

    def test_as_many_letters_and_names_as_are_promised(self):
        letters = [exact(name, k, 100 + k) for k in range(5) for name in names(40)]
        self.assertEqual(sure(letters, 0, 0, 0), (4, 100, [], [(4, 100)]))

    def test_great_numbers(self):
        letters = [("ada", 0, GREATEST, GREATEST, GREATEST), ("bob", 0, 0, 0, GREATEST)]
        high = 2 * GREATEST + 10**9
        self.assertEqual(sure(letters, GREATEST, 1, 0), (GREATEST, high, [], [(GREATEST, high)]))


class SureOnEveryFew(unittest.TestCase):
    """Points 12 to 14 for all lists of up to four clocks of a few shapes."""

    def each(self):
        for many in range(1, 5):
            for stretches in itertools.product(SHAPES, repeat=many):
                for bad in range(many):
                    clocks = named(*stretches)
                    need = many - bad
                    times = {point for point in TIMES if len(bearers(clocks, point)) >= need}
                    yield clocks, bad, times

    def test_against_times_counted_one_by_one(self):
        for clocks, bad, times in self.each():
            if times:
                wrong = [name for name, _ in clocks if not any(name in bearers(clocks, t) for t in times)]
                given = (min(times), max(times), wrong, runs(times))
                self.assertEqual(sure(letters_of(clocks), 0, 0, bad), given, (clocks, bad))
            else:
                refused(self, NoAgreement, sure, letters_of(clocks), 0, 0, bad)

    def test_some_is_parts_of_the_gathered_clocks(self):
        for clocks, bad, times in self.each():
            if times:
                letters = letters_of(clocks)
                some = parts(gathered(letters, 0, 0), len(clocks) - bad)
                self.assertEqual(sure(letters, 0, 0, bad)[3], some)

    def test_what_follows_where_no_more_than_bad_are_wrong(self):
        """Point 14."""
        for clocks, bad, times in self.each():
            if not times:
                continue
            low, high, wrong, some = sure(letters_of(clocks), 0, 0, bad)
            for truth in TIMES:
                right = bearers(clocks, truth)
                if len(clocks) - len(right) <= bad:
                    self.assertTrue(low <= truth <= high)
                    self.assertTrue(any(first <= truth <= last for first, last in some))
                    self.assertEqual([name for name in wrong if name in right], [])
            for end in (low, high):
                self.assertGreaterEqual(len(bearers(clocks, end)), len(clocks) - bad)
            borne = {name for point in times for name in bearers(clocks, point)}
            self.assertEqual([name for name, _ in clocks if name not in wrong and name not in borne], [])


class SureRefuses(unittest.TestCase):
    """Point 13: the first of BadOff, TooEarly, NoAgreement, BadCount, NoAgreement."""

    late = ("bob", 0, 9, 1, 2)
    apart = [exact("ada", 1, 2), exact("bob", 8, 9)]

    def test_off_out_of_bounds(self):
        for off in (-1, 1000):
            refused(self, BadOff, sure, [exact("ada", 1, 2)], 0, off)

    def test_off_out_of_bounds_ahead_of_all_else(self):
        for off in (-1, 1000):
            refused(self, BadOff, sure, [self.late], 0, off)
            refused(self, BadOff, sure, [], 0, off)
            refused(self, BadOff, sure, [], 0, off, 5)
            refused(self, BadOff, sure, self.apart, 0, off, -1)
            refused(self, BadOff, sure, self.apart, 0, off, 0)

    def test_a_letter_with_back_above_now(self):
        refused(self, TooEarly, sure, [exact("ada", 1, 2), self.late], 8, 0)
        refused(self, TooEarly, sure, [exact("ada", 1, 2)], -1, 0)
        self.assertEqual(sure([self.late], 9, 0), (1, 11, [], [(1, 11)]))

    def test_too_early_ahead_of_bad_count_and_no_agreement(self):
        refused(self, TooEarly, sure, [self.late], 8, 0, 1)
        refused(self, TooEarly, sure, [self.late], 8, 0, -1)
        refused(self, TooEarly, sure, [exact("ada", 80, 90), self.late], 8, 0, 0)

    def test_no_letters(self):
        refused(self, NoAgreement, sure, [], 0, 0)
        refused(self, NoAgreement, sure, [], -5, 999, None)

    def test_no_letters_ahead_of_bad_count(self):
        for bad in (-1, 0, 1, 100):
            refused(self, NoAgreement, sure, [], 0, 0, bad)

    def test_bad_is_none_such(self):
        for bad in (-100, -1, 2, 3, 100):
            refused(self, BadCount, sure, [exact("ada", 1, 4), exact("bob", 3, 9)], 0, 0, bad)
        for bad in (-1, 1, 2):
            refused(self, BadCount, sure, [exact("ada", 1, 4)], 0, 0, bad)

    def test_bad_is_told_by_clocks_and_not_by_letters(self):
        letters = [exact("ada", 1, 4), exact("ada", 2, 5), exact("ada", 3, 6)]
        refused(self, BadCount, sure, letters, 0, 0, 1)
        self.assertEqual(sure(letters, 0, 0, 0), (3, 4, [], [(3, 4)]))

    def test_bad_count_ahead_of_no_agreement(self):
        for bad in (-1, 2):
            refused(self, BadCount, sure, self.apart, 0, 0, bad)
        refused(self, BadCount, told, [None], 1)
        refused(self, BadCount, told, [None], -1)

    def test_more_clocks_are_wrong_than_bad(self):
        refused(self, NoAgreement, sure, self.apart, 0, 0)
        refused(self, NoAgreement, sure, self.apart, 0, 0, 0)
        self.assertEqual(sure(self.apart, 0, 0, 1), (1, 9, [], [(1, 2), (8, 9)]))
        refused(self, NoAgreement, told, [(1, 2), (4, 5), (7, 8)])
        refused(self, NoAgreement, told, [(1, 2), (4, 5), (7, 8)], 1)

    def test_all_clocks_wrong_by_themselves(self):
        refused(self, NoAgreement, told, [None])
        for bad in (None, 0, 1, 2):
            refused(self, NoAgreement, told, [None, None, None], bad)


class Lasting(unittest.TestCase):
    """Point 15."""

    def test_off_nought_lasts_for_ever(self):
        for stretch, width in (((3, 9), 6), ((3, 9), 7), ((3, 9), 10**20), ((4, 4), 0), ((-9, -3), 6)):
            self.assertIs(lasting(stretch, 0, width), None)

    def test_a_width_as_wide_as_the_stretch(self):
        for off in (1, 7, 500, 999):
            self.assertEqual(lasting((3, 9), off, 6), 0)
            self.assertEqual(lasting((4, 4), off, 0), 0)
            self.assertEqual(lasting((-9, -3), off, 6), 0)

    def test_one_more_than_the_stretch_is_not_enough_for_both_ends(self):
        for off in (1, 7, 500, 999):
            self.assertEqual(lasting((3, 9), off, 7), 0)

    def test_more_than_the_stretch(self):
        cases = (
            (1, 8, 1000), (1, 9, 1000), (1, 10, 2000), (7, 8, 142), (7, 20, 1000), (500, 8, 2), (500, 9, 2),
            (500, 10, 4), (999, 8, 1), (999, 2004, 1000), (3, 8, 333), (3, 12, 1000), (8, 8, 125), (999, 10, 2),
        )
        for off, width, ticks in cases:
            with self.subTest(off=off, width=width):
                self.assertEqual(lasting((3, 9), off, width), ticks)

    def test_far_more_than_the_stretch(self):
        self.assertEqual(lasting((0, 0), 1, 2 * 10**18), 10**21)
        self.assertEqual(lasting((-(10**18), 10**18), 999, 4 * 10**18), 10**21 // 999)

    def test_the_greatest_number_of_ticks(self):
        for off in (1, 2, 3, 7, 8, 9, 125, 333, 334, 500, 501, 667, 998, 999):
            for width in range(4, 60):
                ticks = lasting((-2, 2), off, width)
                for passed, fits in ((ticks, True), (ticks + 1, False)):
                    low, high = aged((-2, 2), passed, off)
                    self.assertEqual(high - low <= width, fits, (off, width, passed))

    def test_a_stretch_that_is_wider_already(self):
        for off in (0, 1, 500, 999):
            for stretch, width in (((3, 9), 5), ((3, 9), 0), ((3, 9), -1), ((4, 4), -1), ((-9, -3), 5)):
                with self.subTest(off=off, stretch=stretch, width=width):
                    refused(self, TooWide, lasting, stretch, off, width)

    def test_off_out_of_bounds_ahead_of_too_wide(self):
        for off in (-1000, -1, 1000, 1001):
            refused(self, BadOff, lasting, (3, 9), off, 5)
            refused(self, BadOff, lasting, (3, 9), off, 6)
            refused(self, BadOff, lasting, (3, 9), off, 60)


class NothingIsChanged(unittest.TestCase):
    """Point 1."""

    letters = [exact("ada", 1, 8), exact("bob", 80, 90), exact("cyd", 5, 12), exact("cyd", 1, 7)]

    def test_what_is_handed_in_stays_as_it_was(self):
        letters = list(self.letters)
        sure(letters, 0, 0)
        refused(self, TooEarly, sure, letters, -1, 0)
        refused(self, BadCount, sure, letters, 0, 0, 3)
        refused(self, NoAgreement, sure, letters, 0, 0, 0)
        self.assertEqual(letters, self.letters)
        for letter, old in zip(letters, self.letters):
            self.assertIs(letter, old)

    def test_what_is_given_back_is_the_askers_own(self):
        letters = list(self.letters)
        given = (5, 7, ["bob"], [(5, 7)])
        first = sure(letters, 0, 0)
        letters.clear()
        self.assertEqual(first, given)
        first[2].clear()
        first[3].clear()
        self.assertEqual(sure(self.letters, 0, 0), given)

    def test_kinds_of_values(self):
        given = sure(self.letters, 0, 0)
        self.assertIs(type(given), tuple)
        self.assertEqual([type(part) for part in given], [int, int, list, list])
        self.assertIs(type(given[3][0]), tuple)
        self.assertIs(type(lasting((3, 9), 500, 8)), int)


if __name__ == "__main__":
    unittest.main()
