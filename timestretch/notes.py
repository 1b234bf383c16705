"""Notes: letters written as a text, a row each, and read from one.

A row is `NAME sent S back B swears L to H` and a line feed.
"""

from timestretch.errors import NoText
from timestretch.letters import checked

WORDS_BETWEEN = ("sent", "back", "swears", "to")
WORDS_IN_A_ROW = 9


def written(letters):
    """The text that writes the letters, row by row."""
    return "".join([row_of(letter) for letter in letters])


def row_of(letter):
    """The row that writes the letter, its line feed behind it."""
    name, sent, back, low, high = letter
    return f"{name} sent {sent} back {back} swears {low} to {high}\n"


def read(text):
    """The list of the letters that the text writes."""
    rows = text.split("\n")
    # Behind the last line feed there is nothing, unless a row lacks its own.
    if rows.pop() != "":
        raise NoText("there is no line feed at the end")
    letters = [letter_of(row) for row in rows]
    # Not in the same go: a last row of the wrong form is told ahead of a first letter
    # that is wrong.
    return [checked(letter) for letter in letters]


def letter_of(row):
    """The letter that the row writes, its name and numbers not checked yet."""
    words = row.split(" ")
    if len(words) != WORDS_IN_A_ROW or words[1::2] != list(WORDS_BETWEEN):
        raise NoText("a row is not NAME sent S back B swears L to H")
    name, sent, back, low, high = words[0::2]
    return (name, number_of(sent), number_of(back), number_of(low), number_of(high))


def number_of(word):
    """The number that the word writes in figures."""
    if word == "" or not all("0" <= sign <= "9" for sign in word):
        raise NoText("a number is written in figures")
    if word.startswith("0") and word != "0":
        raise NoText("a number has no nought ahead of it")
    return int(word)
