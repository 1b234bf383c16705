"""Points 9 to 11: bearers, parts and fewest."""

import itertools
import unittest

from tests.samples import named, runs
from timestretch.clocks import gathered
from timestretch.counts import bearers, fewest, parts

# Apart, touching in one time, one tick apart, within one another, of one time, none.
SHAPES = ((-3, -1), (-1, 1), (0, 0), (2, 4), (1, 5), (-4, 6), None)
TIMES = range(-6, 9)


def holders(clocks, point):
    """How many of the clocks bear the time, counted from the document's words."""
    return sum(1 for _, stretch in clocks if stretch is not None and stretch[0] <= point <= stretch[1])


class Bearers(unittest.TestCase):
    """Point 9."""

    def test_the_ends_and_the_times_beside_them(self):
        clocks = [("ada", (3, 7))]
        for point, told in ((2, []), (3, ["ada"]), (4, ["ada"]), (6, ["ada"]), (7, ["ada"]), (8, [])):
            with self.subTest(point=point):
                self.assertEqual(bearers(clocks, point), told)

    def test_one_time_alone(self):
        clocks = [("ada", (5, 5))]
        for point, told in ((4, []), (5, ["ada"]), (6, [])):
            with self.subTest(point=point):
                self.assertEqual(bearers(clocks, point), told)

    def test_a_clock_with_none_bears_none(self):
        for point in (-1, 0, 1):
            self.assertEqual(bearers([("ada", None)], point), [])
            self.assertEqual(bearers([("ada", None), ("bob", (-1, 1))], point), ["bob"])

    def test_no_clocks(self):
        self.assertEqual(bearers([], 0), [])

    def test_numbers_below_nought(self):
        clocks = [("ada", (-7, -3)), ("bob", (-3, 0))]
        for point, told in ((-8, []), (-7, ["ada"]), (-3, ["ada", "bob"]), (-2, ["bob"]), (0, ["bob"]), (1, [])):
            with self.subTest(point=point):
                self.assertEqual(bearers(clocks, point), told)

    def test_in_the_order_of_the_list(self):
        clocks = [("zoe", (1, 9)), ("ada", (4, 4)), ("max", None), ("bob", (5, 9)), ("eva", (0, 4))]
        self.assertEqual(bearers(clocks, 4), ["zoe", "ada", "eva"])
        self.assertEqual(bearers(clocks[::-1], 4), ["eva", "ada", "zoe"])
        self.assertEqual(bearers(clocks, 5), ["zoe", "bob"])

    def test_of_gathered_clocks(self):
        letters = [("zoe", 0, 0, 1, 5), ("ada", 0, 0, 1, 2), ("ada", 0, 0, 4, 5), ("bob", 0, 0, 5, 9)]
        self.assertEqual(bearers(gathered(letters, 0, 0), 5), ["zoe", "bob"])


class Parts(unittest.TestCase):
    """Point 10."""

    def test_need_one(self):
        self.assertEqual(parts(named((1, 4)), 1), [(1, 4)])
        self.assertEqual(parts(named((3, 6), (1, 4)), 1), [(1, 6)])
        self.assertEqual(parts(named((8, 9), (1, 4)), 1), [(1, 4), (8, 9)])

    def test_need_as_many_as_there_are(self):
        self.assertEqual(parts(named((1, 6), (3, 9), (2, 4)), 3), [(3, 4)])
        self.assertEqual(parts(named((1, 6), (3, 9), (7, 8)), 3), [])
        self.assertEqual(parts(named((5, 5), (5, 5)), 2), [(5, 5)])

    def test_need_more_than_there_are(self):
        for need in (3, 4, 100):
            self.assertEqual(parts(named((1, 6), (1, 6)), need), [])

    def test_some_between(self):
        clocks = named((0, 10), (5, 20), (8, 30), (40, 50), (45, 60))
        self.assertEqual(parts(clocks, 1), [(0, 30), (40, 60)])
        self.assertEqual(parts(clocks, 2), [(5, 20), (45, 50)])
        self.assertEqual(parts(clocks, 3), [(8, 10)])
        self.assertEqual(parts(clocks, 4), [])

    def test_touching_in_one_time(self):
        self.assertEqual(parts(named((1, 5), (5, 9)), 1), [(1, 9)])
        self.assertEqual(parts(named((1, 5), (5, 9)), 2), [(5, 5)])

    def test_one_tick_apart_is_one_stretch(self):
        self.assertEqual(parts(named((1, 4), (5, 9)), 1), [(1, 9)])
        self.assertEqual(parts(named((5, 9), (1, 4)), 1), [(1, 9)])
        self.assertEqual(parts(named((1, 4), (5, 9)), 2), [])
        self.assertEqual(parts(named((1, 4), (5, 9), (0, 7)), 2), [(1, 7)])
        self.assertEqual(parts(named((1, 1), (2, 2), (3, 3)), 1), [(1, 3)])

    def test_two_apart_are_two_stretches(self):
        self.assertEqual(parts(named((1, 4), (6, 9)), 1), [(1, 4), (6, 9)])
        self.assertEqual(parts(named((1, 4), (6, 9), (0, 7)), 2), [(1, 4), (6, 7)])
        self.assertEqual(parts(named((1, 1), (3, 3)), 1), [(1, 1), (3, 3)])

    def test_clocks_that_change_places_leave_one_stretch(self):
        self.assertEqual(parts(named((0, 9), (1, 3), (4, 6), (7, 8)), 2), [(1, 8)])

    def test_the_count_of_bearers_may_rise_and_fall_within_a_stretch(self):
        self.assertEqual(parts(named((0, 9), (0, 9), (2, 3), (5, 6), (2, 6)), 2), [(0, 9)])

    def test_no_clocks_and_none(self):
        self.assertEqual(parts([], 1), [])
        self.assertEqual(parts(named(None, None), 1), [])
        self.assertEqual(parts(named(None, (1, 2), None), 1), [(1, 2)])
        self.assertEqual(parts(named(None, (1, 2), None), 2), [])

    def test_numbers_below_nought(self):
        self.assertEqual(parts(named((-9, -5), (-7, 2)), 2), [(-7, -5)])
        self.assertEqual(parts(named((-9, -5), (-4, 0), (2, 3)), 1), [(-9, 0), (2, 3)])
        self.assertEqual(parts(named((-2, -2), (0, 0)), 1), [(-2, -2), (0, 0)])

    def test_great_numbers(self):
        far = 10**18
        self.assertEqual(parts(named((-far, far), (0, far + 1)), 2), [(0, far)])

    def test_against_times_counted_one_by_one(self):
        for stretches in itertools.product(SHAPES, repeat=4):
            clocks = named(*stretches)
            for need in range(1, 6):
                times = {point for point in TIMES if holders(clocks, point) >= need}
                self.assertEqual(parts(clocks, need), runs(times), (clocks, need))


class Fewest(unittest.TestCase):
    """Point 11."""

    def test_no_clocks(self):
        self.assertEqual(fewest([]), (0, None))

    def test_all_with_none(self):
        self.assertEqual(fewest(named(None)), (1, None))
        self.assertEqual(fewest(named(None, None, None)), (3, None))

    def test_all_agreeing(self):
        self.assertEqual(fewest(named((3, 7))), (0, 3))
        self.assertEqual(fewest(named((3, 7), (5, 9), (1, 6))), (0, 5))
        self.assertEqual(fewest(named((3, 5), (5, 9))), (0, 5))

    def test_some_wrong(self):
        self.assertEqual(fewest(named((1, 2), (8, 9), (9, 12))), (1, 9))
        self.assertEqual(fewest(named((1, 2), None, (2, 12))), (1, 2))
        self.assertEqual(fewest(named(None, None, (4, 12))), (2, 4))
        self.assertEqual(fewest(named((1, 2), (4, 5), (7, 8))), (2, 1))

    def test_several_times_borne_by_as_many_the_least_is_told(self):
        self.assertEqual(fewest(named((8, 9), (1, 2))), (1, 1))
        self.assertEqual(fewest(named((1, 2), (8, 9))), (1, 1))
        self.assertEqual(fewest(named((20, 29), (1, 6), (25, 40), (3, 9))), (2, 3))

    def test_a_later_time_borne_by_more_is_told(self):
        self.assertEqual(fewest(named((1, 6), (3, 9), (20, 29), (25, 40), (28, 28))), (2, 28))

    def test_one_tick_apart_they_do_not_agree(self):
        self.assertEqual(fewest(named((1, 4), (5, 9))), (1, 1))

    def test_numbers_below_nought(self):
        self.assertEqual(fewest(named((-9, -5), (-7, 2))), (0, -7))
        self.assertEqual(fewest(named((0, 3), (-9, -5))), (1, -9))
        self.assertEqual(fewest(named((-1, 0), (0, 4))), (0, 0))

    def test_against_times_counted_one_by_one(self):
        for stretches in itertools.product(SHAPES, repeat=4):
            clocks = named(*stretches)
            most = max(holders(clocks, point) for point in TIMES)
            times = [point for point in TIMES if holders(clocks, point) == most]
            told = (len(clocks) - most, min(times) if most else None)
            self.assertEqual(fewest(clocks), told, clocks)


class NothingIsChanged(unittest.TestCase):
    """Point 1."""

    def test_the_clocks_stay_as_they_were(self):
        clocks = [("zoe", (8, 9)), ("ada", None), ("bob", (1, 4)), ("eva", (3, 8))]
        before = list(clocks)
        bearers(clocks, 4)
        parts(clocks, 1)
        parts(clocks, 9)
        fewest(clocks)
        self.assertEqual(clocks, before)
        for pair, old in zip(clocks, before):
            self.assertIs(pair, old)

    def test_what_is_given_back_is_the_askers_own(self):
        clocks = named((1, 4), (3, 8))
        borne, some = bearers(clocks, 3), parts(clocks, 1)
        borne.clear()
        some.clear()
        self.assertEqual(bearers(clocks, 3), ["a", "b"])
        self.assertEqual(parts(clocks, 1), [(1, 8)])
        bearers([], 3).append("a")
        parts([], 1).append((1, 2))
        self.assertEqual((bearers([], 3), parts([], 1)), ([], []))
        borne, some = bearers(clocks, 3), parts(clocks, 1)
        clocks.clear()
        self.assertEqual((borne, some), (["a", "b"], [(1, 8)]))

    def test_kinds_of_values(self):
        clocks = named((1, 4), (3, 8))
        self.assertIs(type(bearers(clocks, 3)), list)
        self.assertIs(type(parts(clocks, 1)), list)
        self.assertIs(type(parts(clocks, 1)[0]), tuple)
        self.assertIs(type(fewest(clocks)), tuple)
        self.assertEqual(len(fewest(clocks)), 2)


if __name__ == "__main__":
    unittest.main()
