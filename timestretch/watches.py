"""Watches: letters kept by one who asks for the time again and again."""

from timestretch.errors import NoClock, TooMany
from timestretch.letters import check_off, checked
from timestretch.sure import sure

MOST_LETTERS = 200
MOST_NAMES = 40


class Watch:
    """The letters that came, in their order, and how much the count runs off.

    Methods never change the list in letters but set another one, so that a list
    that was read earlier stays as it was.
    """

    def __init__(self, off):
        check_off(off)
        self.off = off
        self.letters = []

    def put(self, letter):
        """Put the letter behind the others; gives how many there are then."""
        check_room(self.letters, checked(letter)[0])
        self.letters = self.letters + [letter]
        return len(self.letters)

    def drop(self, name):
        """Take out all letters of that name; gives how many they were."""
        kept = [letter for letter in self.letters if letter[0] != name]
        dropped = len(self.letters) - len(kept)
        if dropped == 0:
            raise NoClock("there is no letter of that name")
        self.letters = kept
        return dropped

    def told(self, now, bad=None):
        """What is sure of the letters at the count now."""
        return sure(self.letters, now, self.off, bad)


def check_room(letters, name):
    """Refuse a letter of that name where the letters are as many as a watch holds."""
    if len(letters) >= MOST_LETTERS:
        raise TooMany("there are as many letters as a watch holds")
    names = {letter[0] for letter in letters}
    if name not in names and len(names) >= MOST_NAMES:
        raise TooMany("there are letters of as many names as a watch holds")
