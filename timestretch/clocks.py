"""Clocks: the one stretch that each of them swears to in all its letters."""

from timestretch.letters import brought, check_off


def gathered(letters, now, off):
    """Pairs of a clock's name and its stretch at the count now, None if it is wrong."""
    # Without letters none would be brought, and a wrong off would go unseen.
    check_off(off)
    found = {}
    for letter in letters:
        name = letter[0]
        # A clock known to be wrong has its letters brought too: one may come too early.
        stretch = brought(letter, now, off)
        if name in found:
            stretch = common(found[name], stretch)
        found[name] = stretch
    return list(found.items())


def common(kept, stretch):
    """The times that both have, None if there are none; kept may be None."""
    if kept is None:
        return None
    low = max(kept[0], stretch[0])
    high = min(kept[1], stretch[1])
    if low > high:
        return None
    return (low, high)
