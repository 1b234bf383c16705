"""Letters and clocks that several tests take."""

LETTER = ("ada", 10, 20, 100, 110)


def exact(name, low, high):
    """A letter that at the count nought swears from low to high and nothing more."""
    return (name, 0, 0, low, high)


def named(*stretches):
    """Clocks called a, b, c .. with these stretches, each of them may be None."""
    return list(zip("abcdefghijklmnopqrstuvwxyz", stretches))


def names(many):
    """As many different names, 676 at most."""
    signs = "abcdefghijklmnopqrstuvwxyz"
    return [first + second for first in signs for second in signs][:many]


def runs(times):
    """The whole numbers in times as stretches, rising, told one by one."""
    found = []
    for time in sorted(times):
        if time - 1 in times:
            found[-1] = (found[-1][0], time)
        else:
            found.append((time, time))
    return found
