"""Small functions over numbers and tuples that several files need."""


def is_whole(thing):
    """Whether the thing is a whole number; True and False are none."""
    return isinstance(thing, int) and not isinstance(thing, bool)


def is_rising(things):
    """Whether each of the things is greater than the one ahead of it."""
    return all(one < other for one, other in zip(things, things[1:]))


def next_number(some):
    """The least number that may stand behind a rising tuple of numbers from 0 on."""
    return some[-1] + 1 if some else 0


def choices(many, size):
    """All rising tuples of so many numbers from 0 to many less 1: a rising list."""
    chosen = [()]
    for left in range(size, 0, -1):
        # The bound keeps room for those that are still to come behind.
        chosen = [some + (k,) for some in chosen for k in range(next_number(some), many - left + 1)]
    return chosen


def ways(taken, given):
    """In how many ways so many things are taken of the given ones, order aside."""
    found = 1
    for k in range(taken):
        found = found * (given - k) // (k + 1)
    return found
