"""Small functions over numbers and tuples that several files need."""


def is_whole(thing):
    """Whether the thing is a whole number; True and False are none."""
    return isinstance(thing, int) and not isinstance(thing, bool)


def is_within(thing, least, most):
    """Whether the thing, of whatever kind, is a whole number from least to most."""
    return is_whole(thing) and least <= thing <= most


def is_rising(things):
    """Whether each of the things is greater than the one ahead of it."""
    return all(one < other for one, other in zip(things, things[1:]))


def is_lot_of(thing, many):
    """Whether the thing, of whatever kind, is a lot of so many corners."""
    if not isinstance(thing, tuple):
        return False
    least = 0
    for one in thing:
        # What is no number must not be compared with one.
        if not is_whole(one) or not least <= one < many:
            return False
        least = one + 1
    return True


def is_choice(thing, many, size):
    """Whether the thing, of whatever kind, is a lot of so many corners that has just size of them."""
    return is_lot_of(thing, many) and len(thing) == size


def has_all(things, some):
    """Whether some are all among the things."""
    return all(one in things for one in some)


def next_number(some):
    """The least number that may stand behind a rising tuple of numbers from 0 on."""
    return some[-1] + 1 if some else 0


def choices(many, size):
    """All rising tuples of so many numbers from 0 to many less 1: a rising list."""
    chosen = [()]
    for left in range(size, 0, -1):
        # The bound keeps room for those that are still to come behind.
        chosen = [some + (k,) for some in chosen for k in range(next_number(some), many - left + 1)]
    return chosen


def ways(taken, given):
    """In how many ways so many things are taken of the given ones, order aside."""
    found = 1
    for k in range(taken):
        found = found * (given - k) // (k + 1)
    return found


def without_each(lot):
    """The lots that come where one corner of the lot is left out, the first one first."""
    return [lot[:at] + lot[at + 1:] for at in range(len(lot))]


def odd_blocks(many, lot):
    """How many inner blocks of the lot, one of so many corners, have an odd number of corners."""
    # All corners of a block have the same number of corners that are out ahead of
    # them, so this number stands for the block: 0 for the one with the first corner
    # of the curve, the number of all that are out for the one with the last.
    out_ahead = [corner - at for at, corner in enumerate(lot)]
    return len([k for k in range(1, many - len(lot)) if out_ahead.count(k) % 2 == 1])


def has_pane(many, deep, lot):
    """Whether the lot is a face, that is whether some pane has all its corners."""
    # Each odd inner block needs a corner more to come to a pane.
    return odd_blocks(many, lot) <= deep - len(lot)


def paired(chosen, first):
    """The pairs of neighbours, from the first corner on, that the chosen numbers stand for."""
    corners = ()
    for at, k in enumerate(chosen):
        # Each pair ahead was chosen as one thing, but takes two corners.
        corners = corners + (first + k + at, first + k + at + 1)
    return corners


def ended(many, deep, head, tail):
    """All lots of deep corners that are pairs of neighbours between head and tail: a rising list."""
    pairs = (deep - len(head) - len(tail)) // 2
    room = many - len(head) - len(tail)
    return [head + paired(chosen, len(head)) + tail for chosen in choices(room - pairs, pairs)]


def ended_many(many, deep, ends):
    """How many such lots there are where head and tail have so many corners together."""
    pairs = (deep - ends) // 2
    return ways(pairs, many - ends - pairs)


# A pane falls into pairs of neighbours, but for its blocks at the two ends of the
# curve, which may be odd: then the first corner, or the last one, is told as an end.
# The block with the last corner is even in a low pane and odd in a high one, so
# whether the one with the first corner is odd hangs on deep alone. Where many is
# deep, the one lot of all corners comes as low and as high.


def low_lots(many, deep):
    """The low panes of so many corners at this depth, a rising list."""
    return ended(many, deep, (0,) if deep % 2 == 1 else (), ())


def high_lots(many, deep):
    """The high panes of so many corners at this depth, a rising list."""
    return ended(many, deep, (0,) if deep % 2 == 0 else (), (many - 1,))


def low_many(many, deep):
    """How many low panes there are with so many corners at this depth."""
    return ended_many(many, deep, deep % 2)


def high_many(many, deep):
    """How many high panes there are with so many corners at this depth."""
    return ended_many(many, deep, 2 - deep % 2)
