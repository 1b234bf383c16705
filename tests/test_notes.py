"""Point 17: written and read."""

import unittest

from tests.refusals import refused
from tests.samples import LETTER
from timestretch.errors import BadLetter, BadName, NoText
from timestretch.notes import read, written

GREATEST = 1000000000000
ROW = "ada sent 10 back 20 swears 100 to 110"
SEVERAL = [
    LETTER,
    ("z", 0, 0, 0, 0),
    ("abcdefghijkl", GREATEST, GREATEST, GREATEST, GREATEST),
    ("ada", 0, GREATEST, 0, GREATEST),
    LETTER,
]
SEVERAL_WRITTEN = (
    "ada sent 10 back 20 swears 100 to 110\n"
    "z sent 0 back 0 swears 0 to 0\n"
    "abcdefghijkl sent 1000000000000 back 1000000000000 swears 1000000000000 to 1000000000000\n"
    "ada sent 0 back 1000000000000 swears 0 to 1000000000000\n"
    "ada sent 10 back 20 swears 100 to 110\n"
)
# Each is no row, though only a little is wrong with it.
BROKEN = (
    # Another word.
    "ada went 10 back 20 swears 100 to 110",
    "ada sent 10 bakc 20 swears 100 to 110",
    "ada sent 10 back 20 swear 100 to 110",
    "ada sent 10 back 20 swears 100 too 110",
    "ada Sent 10 back 20 swears 100 to 110",
    "ada sent 10 back 20 swears 100 to to",
    "ada sent 10 back 20 to 100 swears 110",
    "ada back 10 sent 20 swears 100 to 110",
    "sent ada 10 back 20 swears 100 to 110",
    # A word too few or too many.
    "",
    "ada",
    "ada sent 10 back 20 swears 100 to",
    "ada sent 10 back 20 swears 100",
    "sent 10 back 20 swears 100 to 110",
    "ada sent back 20 swears 100 to 110",
    "ada sent 10 back 20 100 to 110",
    "ada sent 10 back 20 swears 100 to 110 ticks",
    "ada sent 10 back 20 swears 100 to 110 to 120",
    "ada bob sent 10 back 20 swears 100 to 110",
    "the ada sent 10 back 20 swears 100 to",
    "10 sent 20 back 100 swears 110 to",
    # A blank too many, too few, or none.
    " ",
    " ada sent 10 back 20 swears 100 to 110",
    "ada  sent 10 back 20 swears 100 to 110",
    "ada sent  10 back 20 swears 100 to 110",
    "ada sent 10  back 20 swears 100 to 110",
    "ada sent 10 back  20 swears 100 to 110",
    "ada sent 10 back 20  swears 100 to 110",
    "ada sent 10 back 20 swears  100 to 110",
    "ada sent 10 back 20 swears 100  to 110",
    "ada sent 10 back 20 swears 100 to  110",
    "ada sent 10 back 20 swears 100 to 110 ",
    "ada sent10 back 20 swears 100 to 110",
    "adasent 10 back 20 swears 100 to 110",
    "ada sent 10 back 20 swears 100 to110",
    "  sent 10 back 20 swears 100 to 110",
    # A tab instead of a blank, or beside one.
    "ada\tsent 10 back 20 swears 100 to 110",
    "ada sent\t10 back 20 swears 100 to 110",
    "ada sent 10\tback 20 swears 100 to 110",
    "ada sent 10 back 20 swears 100\tto\t110",
    "ada\tsent\t10\tback\t20\tswears\t100\tto\t110",
    "ada \tsent 10 back 20 swears 100 to 110",
    "ada sent \t10 back 20 swears 100 to 110",
    "ada sent 10\t back 20 swears 100 to 110",
    "ada sent 10 back 20 swears 100 to 110\t",
    "\t",
    # A number that is none in the four places: no word, words, signs.
    "ada sent  back 20 swears 100 to 110",
    "ada sent 10 back  swears 100 to 110",
    "ada sent 10 back 20 swears  to 110",
    "ada sent 10 back 20 swears 100 to ",
    "ada sent ten back 20 swears 100 to 110",
    "ada sent 10 back x swears 100 to 110",
    "ada sent 10 back 20 swears 0x1 to 110",
    "ada sent 10 back 20 swears 100 to 11o",
)
BROKEN_NUMBERS = (
    "00", "01", "007", "0000", "010", "-1", "-0", "+1", "+0", "--1", "1-", "1_0", "1,000", "1.0", "1.", ".1", "1e3",
    "a1", "1a", "\t1", "1\t", "1\t1", "'1'", "/", ":", "1/", "1:", "~", "[", "-", "+", "_1", "0b1", "1;",
)


class Written(unittest.TestCase):
    def test_no_letters(self):
        self.assertEqual(written([]), "")

    def test_one_letter(self):
        self.assertEqual(written([LETTER]), "ada sent 10 back 20 swears 100 to 110\n")

    def test_several_letters_and_the_bounds_of_the_numbers(self):
        self.assertEqual(written(SEVERAL), SEVERAL_WRITTEN)

    def test_as_many_letters_as_are_promised(self):
        self.assertEqual(written([LETTER] * 200), (ROW + "\n") * 200)


class Read(unittest.TestCase):
    def test_the_empty_text_is_no_letters(self):
        self.assertEqual(read(""), [])

    def test_one_letter(self):
        self.assertEqual(read("ada sent 10 back 20 swears 100 to 110\n"), [LETTER])

    def test_several_letters_and_the_bounds_of_the_numbers(self):
        self.assertEqual(read(SEVERAL_WRITTEN), SEVERAL)

    def test_what_was_written_is_read_again(self):
        for letters in ([], [LETTER], SEVERAL, SEVERAL[::-1], SEVERAL * 6):
            self.assertEqual(read(written(letters)), letters)

    def test_what_was_read_is_written_again(self):
        for text in ("", ROW + "\n", SEVERAL_WRITTEN, (ROW + "\n") * 32):
            self.assertEqual(written(read(text)), text)

    def test_a_name_that_is_a_word_of_the_form(self):
        for name in ("sent", "back", "swears", "to"):
            self.assertEqual(read(f"{name} sent 1 back 2 swears 3 to 4\n"), [(name, 1, 2, 3, 4)])


class ReadRefusesTheForm(unittest.TestCase):
    """NoText, whichever row is of another form."""

    def test_a_broken_row(self):
        for row in BROKEN:
            for text in (f"{row}\n", f"{row}\n{ROW}\n", f"{ROW}\n{row}\n", f"{ROW}\n{row}\n{ROW}\n"):
                with self.subTest(text=text):
                    refused(self, NoText, read, text)

    def test_a_broken_number_in_each_place(self):
        for number in BROKEN_NUMBERS:
            for at in (2, 4, 6, 8):
                words = ROW.split(" ")
                words[at] = number
                with self.subTest(number=number, at=at):
                    refused(self, NoText, read, " ".join(words) + "\n")

    def test_an_empty_row(self):
        for text in ("\n", "\n\n", f"\n{ROW}\n", f"{ROW}\n\n", f"{ROW}\n\n{ROW}\n"):
            with self.subTest(text=text):
                refused(self, NoText, read, text)

    def test_no_line_feed_at_the_end(self):
        for text in (ROW, f"{ROW}\n{ROW}", f"{ROW}\n ", f"{ROW}\n\t", f"{ROW}\nada", " ", "a"):
            with self.subTest(text=text):
                refused(self, NoText, read, text)

    def test_a_row_broken_in_two(self):
        for at in range(len(ROW) + 1):
            refused(self, NoText, read, f"{ROW[:at]}\n{ROW[at:]}\n")

    def test_any_sign_of_the_words_between_left_out_or_put_twice(self):
        for part in (" sent ", " back ", " swears ", " to "):
            first = ROW.find(part)
            for at in range(first, first + len(part)):
                for text in (ROW[:at] + ROW[at + 1:], ROW[:at] + ROW[at] + ROW[at:]):
                    with self.subTest(text=text):
                        refused(self, NoText, read, text + "\n")


class ReadRefusesLetters(unittest.TestCase):
    """Of the right form: letter by letter, BadName, then BadLetter."""

    bad_name = "Ada sent 10 back 20 swears 100 to 110\n"
    bad_letter = "ada sent 21 back 20 swears 100 to 110\n"
    good = ROW + "\n"

    def test_a_name_may_be_any_word_for_the_form(self):
        for name in ("Ada", "abcdefghijklm", "a-b", "1", "10", "~!@#", "a\tb", "\t", "a" * 300, "SENT", "{}", "\\n"):
            with self.subTest(name=name):
                refused(self, BadName, read, f"{name} sent 10 back 20 swears 100 to 110\n")

    def test_the_empty_name(self):
        refused(self, BadName, read, " sent 10 back 20 swears 100 to 110\n")
        refused(self, BadName, read, self.good + " sent 10 back 20 swears 100 to 110\n")
        refused(self, BadName, read, " sent 21 back 20 swears 100 to 110\n")

    def test_numbers_out_of_order(self):
        refused(self, BadLetter, read, self.bad_letter)
        refused(self, BadLetter, read, "ada sent 10 back 20 swears 111 to 110\n")

    def test_numbers_above_the_greatest(self):
        for above in ("1000000000001", "9999999999999", "9" * 47):
            for text in (
                f"ada sent 10 back {above} swears 100 to 110\n",
                f"ada sent {above} back {above} swears 100 to 110\n",
                f"ada sent 10 back 20 swears 100 to {above}\n",
                f"ada sent 10 back 20 swears {above} to {above}\n",
            ):
                with self.subTest(text=text):
                    refused(self, BadLetter, read, text)

    def test_a_wrong_name_is_told_ahead_of_wrong_numbers_of_its_letter(self):
        refused(self, BadName, read, "Ada sent 21 back 20 swears 111 to 110\n")

    def test_letter_by_letter(self):
        refused(self, BadLetter, read, self.bad_letter + self.bad_name)
        refused(self, BadName, read, self.bad_name + self.bad_letter)
        refused(self, BadLetter, read, self.good + self.bad_letter + self.good + self.bad_name)
        refused(self, BadName, read, self.good + self.good + self.bad_name + self.bad_letter)

    def test_the_form_is_told_ahead_of_wrong_letters_whichever_row_it_is_in(self):
        for wrong in (self.bad_name, self.bad_letter, self.bad_name + self.bad_letter):
            for broken in ("\n", "ada\n", "ada sent 010 back 20 swears 100 to 110\n", "ada sent 1 back 2\n"):
                with self.subTest(wrong=wrong, broken=broken):
                    refused(self, NoText, read, wrong + broken)
                    refused(self, NoText, read, broken + wrong)
                    refused(self, NoText, read, self.good + wrong + self.good + broken)
            refused(self, NoText, read, wrong[:-1])
            refused(self, NoText, read, wrong + ROW)

    def test_the_form_of_a_row_is_told_ahead_of_its_name(self):
        refused(self, NoText, read, "Ada sent 10 back 20 swears 100 to 0110\n")
        refused(self, NoText, read, " sent 10 back 20 swears 100\n")


class NothingIsChanged(unittest.TestCase):
    """Point 1."""

    def test_the_letters_stay_as_they_were(self):
        letters = list(SEVERAL)
        written(letters)
        self.assertEqual(letters, SEVERAL)
        for letter, old in zip(letters, SEVERAL):
            self.assertIs(letter, old)

    def test_what_is_given_back_is_the_askers_own(self):
        first = read(SEVERAL_WRITTEN)
        first.clear()
        self.assertEqual(read(SEVERAL_WRITTEN), SEVERAL)
        read("").append(LETTER)
        self.assertEqual(read(""), [])

    def test_kinds_of_values(self):
        self.assertIs(type(written(SEVERAL)), str)
        letters = read(SEVERAL_WRITTEN)
        self.assertIs(type(letters), list)
        for letter in letters:
            self.assertIs(type(letter), tuple)
            self.assertEqual([type(part) for part in letter], [str, int, int, int, int])


if __name__ == "__main__":
    unittest.main()
