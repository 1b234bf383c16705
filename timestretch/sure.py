"""What is sure: the times that enough clocks bear, and for how long a stretch stays short."""

from timestretch.clocks import common, gathered
from timestretch.counts import parts
from timestretch.errors import BadCount, NoAgreement, TooWide
from timestretch.letters import check_off, longest_within


def sure(letters, now, off, bad=None):
    """The tuple (low, high, wrong, some) of what the letters tell at the count now."""
    clocks = gathered(letters, now, off)
    if not clocks:
        raise NoAgreement("there are no letters")
    need = len(clocks) - most_wrong(bad, len(clocks))
    some = parts(clocks, need)
    if not some:
        raise NoAgreement("no time is borne by enough clocks")
    wrong = [name for name, stretch in clocks if not meets(stretch, some)]
    return (some[0][0], some[-1][1], wrong, some)


def most_wrong(bad, many):
    """How many of the clocks are wrong at most: bad, or fewer than half if it is None."""
    if bad is None:
        return (many - 1) // 2
    if not 0 <= bad < many:
        raise BadCount("bad is from 0 to one less than there are clocks")
    return bad


def meets(stretch, some):
    """Whether the stretch has a time of one of some; it may be None."""
    return any(common(stretch, part) is not None for part in some)


def lasting(stretch, off, width):
    """The most ticks after which the stretch, aged, is no wider than width, None if for ever."""
    check_off(off)
    low, high = stretch
    room = width - (high - low)
    if room < 0:
        raise TooWide("the stretch is wider already")
    if off == 0:
        return None
    # Ageing moves both ends outward by the slack, so each has half the room.
    return longest_within(room // 2, off)
