"""Letters, and what the stretches sworn in them come to at a later count.

A letter is a tuple (name, sent, back, low, high), a stretch a tuple (low, high).
"""

from timestretch.errors import BadLetter, BadName, BadOff, TooEarly

LONGEST_NAME = 12
GREATEST_NUMBER = 1000000000000
GREATEST_OFF = 999


def checked(letter):
    """The very letter, if its name and its numbers are as they must be."""
    name, sent, back, low, high = letter
    if not is_name(name):
        raise BadName("a name is of 1 to 12 small letters a to z")
    if not (in_order(sent, back) and in_order(low, high)):
        raise BadLetter("a number is out of bounds, or two are out of order")
    return letter


def is_name(name):
    """Whether the text is 1 to 12 small letters a to z."""
    return 1 <= len(name) <= LONGEST_NAME and all("a" <= sign <= "z" for sign in name)


def in_order(first, last):
    """Whether both numbers are within a letter's bounds, first not above last."""
    return 0 <= first <= last <= GREATEST_NUMBER


def check_off(off):
    """Refuse an off that is not from 0 to 999."""
    if not 0 <= off <= GREATEST_OFF:
        raise BadOff("off is from 0 to 999")


def slack(passed, off):
    """How far the time gone by may be from the ticks passed."""
    # A floor would leave the true time out, so the division is rounded up.
    return (passed * off + 999) // 1000


def longest_within(spread, off):
    """The most ticks whose slack is not above spread; off is not nought."""
    # Spread is whole, so the slack, rounded up, keeps to it just where the share does.
    return spread * 1000 // off


def aged(stretch, passed, off):
    """What the stretch comes to, passed ticks later."""
    check_off(off)
    if passed < 0:
        raise TooEarly("the ticks passed are below nought")
    low, high = stretch
    spread = slack(passed, off)
    return (low + passed - spread, high + passed + spread)


def brought(letter, now, off):
    """The stretch that the letter swears to, at the count now."""
    check_off(off)
    _, sent, back, low, high = letter
    if back > now:
        raise TooEarly("the answer came after now")
    # The clock may have been read at any count from sent to back: the least time
    # has gone by since back, the most since sent.
    shortest = now - back
    longest = now - sent
    return (low + shortest - slack(shortest, off), high + longest + slack(longest, off))
