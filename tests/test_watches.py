"""Point 16: Watch."""

import unittest

from tests.refusals import refused
from tests.samples import LETTER, exact, names
from timestretch.errors import BadCount, BadLetter, BadName, BadOff, NoAgreement, NoClock, TooEarly, TooMany
from timestretch.sure import sure
from timestretch.watches import Watch


def filled(letters, off=0):
    """A watch into which these letters were put."""
    watch = Watch(off)
    for letter in letters:
        watch.put(letter)
    return watch


class Fields(unittest.TestCase):
    def test_a_new_watch(self):
        for off in (0, 1, 500, 999):
            watch = Watch(off)
            self.assertEqual((watch.off, watch.letters), (off, []))
            self.assertIs(type(watch.letters), list)

    def test_off_by_its_name(self):
        self.assertEqual(Watch(off=7).off, 7)

    def test_off_out_of_bounds(self):
        for off in (-1000, -1, 1000, 1001, 10**20):
            with self.subTest(off=off):
                refused(self, BadOff, Watch, off)

    def test_the_fields_are_set_on_each_object(self):
        first, other = Watch(1), Watch(2)
        self.assertEqual(sorted(vars(first)), ["letters", "off"])
        self.assertIsNot(first.letters, other.letters)

    def test_off_stays(self):
        watch = filled([exact("ada", 1, 4)], 9)
        watch.told(0)
        watch.drop("ada")
        self.assertEqual(watch.off, 9)


class Put(unittest.TestCase):
    def test_letters_in_the_order_in_which_they_came(self):
        watch = Watch(0)
        letters = [exact("zoe", 1, 4), exact("ada", 2, 5), exact("zoe", 0, 3), exact("ada", 2, 5)]
        for at, letter in enumerate(letters):
            self.assertEqual(watch.put(letter), at + 1)
            self.assertEqual(watch.letters, letters[:at + 1])
        for kept, letter in zip(watch.letters, letters):
            self.assertIs(kept, letter)

    def test_by_its_name(self):
        self.assertEqual(Watch(0).put(letter=LETTER), 1)

    def test_a_letter_that_is_refused_changes_nothing(self):
        watch = filled([LETTER])
        for kind, letter in (
            (BadName, ("Ada", 1, 2, 3, 4)),
            (BadName, ("", 1, 2, 3, 4)),
            (BadName, ("abcdefghijklm", 2, 1, 3, 4)),
            (BadLetter, ("ada", 2, 1, 3, 4)),
            (BadLetter, ("bob", 1, 2, 4, 3)),
            (BadLetter, ("bob", -1, 2, 3, 4)),
            (BadLetter, ("bob", 1, 2, 3, 1000000000001)),
        ):
            with self.subTest(letter=letter):
                refused(self, kind, watch.put, letter)
                self.assertEqual(watch.letters, [LETTER])
        self.assertEqual(watch.put(exact("bob", 1, 2)), 2)

    def test_two_hundred_letters(self):
        watch = filled([LETTER] * 199)
        self.assertEqual(watch.put(exact("bob", 1, 2)), 200)
        for letter in (LETTER, exact("bob", 1, 2), exact("cyd", 1, 2)):
            refused(self, TooMany, watch.put, letter)
            self.assertEqual(watch.letters, [LETTER] * 199 + [exact("bob", 1, 2)])

    def test_two_hundred_letters_of_one_name(self):
        watch = filled([LETTER] * 199)
        self.assertEqual(watch.put(LETTER), 200)
        refused(self, TooMany, watch.put, LETTER)

    def test_forty_names(self):
        letters = [exact(name, 1, 2) for name in names(41)]
        watch = filled(letters[:39])
        self.assertEqual(watch.put(letters[39]), 40)
        refused(self, TooMany, watch.put, letters[40])
        self.assertEqual(watch.letters, letters[:40])
        for known in (letters[0], letters[20], letters[39]):
            watch.put(known)
        self.assertEqual(len(watch.letters), 43)
        refused(self, TooMany, watch.put, letters[40])
        self.assertEqual(len(watch.letters), 43)

    def test_forty_names_are_told_by_name_and_not_by_letter(self):
        letters = [exact(name, 1, 2) for name in names(40)]
        watch = filled(letters[:39] * 2)
        self.assertEqual(watch.put(letters[39]), 79)

    def test_forty_names_and_two_hundred_letters(self):
        letters = [exact(name, 1, 2) for name in names(40)]
        watch = filled(letters * 4 + letters[:39])
        self.assertEqual(watch.put(letters[0]), 200)
        refused(self, TooMany, watch.put, letters[0])
        refused(self, TooMany, watch.put, exact("zoe", 1, 2))

    def test_a_wrong_letter_is_told_ahead_of_too_many(self):
        for watch in (filled([LETTER] * 200), filled([exact(name, 1, 2) for name in names(40)])):
            refused(self, BadName, watch.put, ("zoe1", 1, 2, 3, 4))
            refused(self, BadName, watch.put, ("zoe1", 2, 1, 3, 4))
            refused(self, BadLetter, watch.put, ("zoe", 2, 1, 3, 4))


class Drop(unittest.TestCase):
    def test_all_letters_of_that_name(self):
        letters = [exact("zoe", 1, 4), exact("ada", 2, 5), exact("zoe", 0, 3), exact("bob", 2, 5), exact("zoe", 1, 4)]
        watch = filled(letters)
        self.assertEqual(watch.drop("zoe"), 3)
        self.assertEqual(watch.letters, [letters[1], letters[3]])
        self.assertEqual(watch.drop(name="bob"), 1)
        self.assertEqual(watch.letters, [letters[1]])
        self.assertEqual(watch.drop("ada"), 1)
        self.assertEqual(watch.letters, [])

    def test_a_name_that_is_not_there_changes_nothing(self):
        watch = filled([exact("zoe", 1, 4), exact("ada", 2, 5)])
        for name in ("bob", "zo", "zoee", "Zoe", "", "a b", "abcdefghijklm"):
            with self.subTest(name=name):
                refused(self, NoClock, watch.drop, name)
                self.assertEqual(watch.letters, [exact("zoe", 1, 4), exact("ada", 2, 5)])

    def test_a_name_that_is_there_no_more(self):
        watch = filled([exact("zoe", 1, 4), exact("ada", 2, 5)])
        watch.drop("zoe")
        refused(self, NoClock, watch.drop, "zoe")
        self.assertEqual(watch.letters, [exact("ada", 2, 5)])

    def test_of_no_letters(self):
        refused(self, NoClock, Watch(0).drop, "ada")

    def test_makes_room_for_a_letter_and_for_a_name(self):
        letters = [exact(name, 1, 2) for name in names(41)]
        watch = filled(letters[:40])
        self.assertEqual(watch.drop(letters[7][0]), 1)
        self.assertEqual(watch.put(letters[40]), 40)
        refused(self, TooMany, watch.put, letters[7])
        watch = filled([LETTER] * 150 + [exact("bob", 1, 2)] * 50)
        self.assertEqual(watch.drop("bob"), 50)
        self.assertEqual(watch.put(exact("cyd", 1, 2)), 151)


class Told(unittest.TestCase):
    letters = [("ada", 10, 20, 100, 110), ("bob", 12, 18, 90, 95), ("cyd", 15, 16, 500, 510), ("ada", 30, 40, 118, 130)]

    def test_as_sure_gives_it(self):
        for off in (0, 100, 999):
            watch = filled(self.letters, off)
            for bad in (None, 1, 2):
                self.assertEqual(watch.told(50, bad), sure(self.letters, 50, off, bad))
                self.assertEqual(watch.told(now=50, bad=bad), sure(self.letters, 50, off, bad))
            self.assertEqual(watch.told(50), sure(self.letters, 50, off))

    def test_ahead_of_and_behind_put_and_drop(self):
        watch = filled([exact("ada", 1, 4)])
        self.assertEqual(watch.told(0), (1, 4, [], [(1, 4)]))
        watch.put(exact("bob", 3, 9))
        self.assertEqual(watch.told(0), (3, 4, [], [(3, 4)]))
        watch.put(exact("cyd", 20, 22))
        self.assertEqual(watch.told(0), (3, 4, ["cyd"], [(3, 4)]))
        self.assertEqual(watch.told(0, 2), (1, 22, [], [(1, 9), (20, 22)]))
        watch.drop("ada")
        self.assertEqual(watch.told(0, 1), (3, 22, [], [(3, 9), (20, 22)]))
        watch.drop("cyd")
        self.assertEqual(watch.told(1), (4, 10, [], [(4, 10)]))

    def test_refused_as_sure_refuses(self):
        watch = filled(self.letters)
        refused(self, TooEarly, watch.told, 39)
        refused(self, BadCount, watch.told, 50, 3)
        refused(self, BadCount, watch.told, 50, -1)
        refused(self, NoAgreement, watch.told, 50, 0)
        refused(self, NoAgreement, Watch(0).told, 50)
        refused(self, NoAgreement, Watch(0).told, 50, -1)
        self.assertEqual(watch.letters, self.letters)
        watch.drop("ada")
        refused(self, NoAgreement, watch.told, 50)
        self.assertEqual(watch.letters, self.letters[1:3])


class TwoWatches(unittest.TestCase):
    def test_neither_changes_the_other(self):
        first, other = Watch(0), Watch(100)
        first.put(exact("ada", 1, 4))
        self.assertEqual((len(first.letters), other.letters), (1, []))
        other.put(exact("bob", 3, 9))
        other.put(exact("ada", 2, 5))
        self.assertEqual(first.letters, [exact("ada", 1, 4)])
        self.assertEqual(first.told(10), (11, 14, [], [(11, 14)]))
        self.assertEqual(other.told(10), (12, 16, [], [(12, 16)]))
        first.drop("ada")
        self.assertEqual(other.letters, [exact("bob", 3, 9), exact("ada", 2, 5)])
        refused(self, NoClock, first.drop, "bob")
        self.assertEqual(other.told(10), (12, 16, [], [(12, 16)]))
        other.drop("ada")
        self.assertEqual((first.letters, other.letters), ([], [exact("bob", 3, 9)]))
        self.assertEqual((first.off, other.off), (0, 100))

    def test_filled_alike_they_are_filled_apart(self):
        letters = [exact("ada", 1, 4), exact("bob", 3, 9)]
        first, other = filled(letters), filled(letters)
        first.drop("ada")
        other.put(exact("cyd", 4, 4))
        self.assertEqual(first.letters, letters[1:])
        self.assertEqual(other.letters, letters + [exact("cyd", 4, 4)])


class NothingIsChanged(unittest.TestCase):
    """Point 1."""

    def test_a_list_that_was_read_stays_as_it_was(self):
        watch = filled([exact("ada", 1, 4), exact("bob", 3, 9)])
        before = watch.letters
        watch.put(exact("cyd", 4, 7))
        watch.drop("ada")
        watch.told(0)
        self.assertEqual(before, [exact("ada", 1, 4), exact("bob", 3, 9)])

    def test_what_is_told_is_the_askers_own(self):
        watch = filled([exact("ada", 1, 4), exact("bob", 3, 9), exact("cyd", 20, 22)])
        given = (3, 4, ["cyd"], [(3, 4)])
        first = watch.told(0)
        second = watch.told(0)
        first[2].clear()
        first[3].clear()
        self.assertEqual((second, watch.told(0)), (given, given))
        watch.drop("cyd")
        watch.put(exact("bob", 4, 4))
        self.assertEqual(second, given)

    def test_kinds_of_values(self):
        watch = Watch(0)
        self.assertIs(type(watch.put(LETTER)), int)
        self.assertIs(type(watch.told(50)), tuple)
        self.assertIs(type(watch.drop("ada")), int)


if __name__ == "__main__":
    unittest.main()
