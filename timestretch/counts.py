"""Counts: which times how many of the clocks bear.

Clocks are a list of pairs of a name and a stretch or None, no name twice.
"""


def bearers(clocks, point):
    """The names of the clocks that bear the time point, in the clocks' order."""
    return [name for name, stretch in clocks if bears(stretch, point)]


def bears(stretch, point):
    """Whether the stretch has the time point; it may be None."""
    return stretch is not None and stretch[0] <= point <= stretch[1]


def parts(clocks, need):
    """All times that at least need clocks bear, as stretches, rising."""
    found = []
    start = None
    for point, many in tallies(clocks):
        if start is None and many >= need:
            start = point
        elif start is not None and many < need:
            found.append((start, point - 1))
            start = None
    return found


def fewest(clocks):
    """How many clocks are wrong at the least, and the least time that all others bear."""
    most = 0
    least = None
    for point, many in tallies(clocks):
        if many > most:
            most = many
            least = point
    return (len(clocks) - most, least)


def tallies(clocks):
    """Pairs, rising: a time, and how many clocks bear it and all times up to the next pair's."""
    turns = {}
    for _, stretch in clocks:
        if stretch is not None:
            low, high = stretch
            turns[low] = turns.get(low, 0) + 1
            # Times are whole: a stretch that begins one tick behind another's end takes
            # its place at once, so that no gap is told between the two.
            turns[high + 1] = turns.get(high + 1, 0) - 1
    found = []
    many = 0
    for point in sorted(turns):
        many = many + turns[point]
        found.append((point, many))
    return found
