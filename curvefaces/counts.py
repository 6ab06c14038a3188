"""The faces of a curve by their size: listed, and counted for any many corners."""

from curvefaces.curves import need_curve
from curvefaces.errors import NoNumber
from curvefaces.helpers import choices, has_pane, is_within, ways
from curvefaces.panes import need_many_deep


def faces_of(many, deep, size):
    """All faces of so many corners, the curve and the size being known as right: a rising list."""
    return [lot for lot in choices(many, size) if has_pane(many, deep, lot)]


def faces(curve, size):
    """All faces of the curve that have so many corners, a rising list."""
    need_curve(curve)
    many, deep = curve
    if not is_within(size, 0, deep):
        raise NoNumber("the size of a face is a whole number from 0 to deep")
    return faces_of(many, deep, size)


def growth_at(many, deep, at):
    """The number of the growth at this place."""
    # The second half mirrors the first one.
    taken = min(at, deep - at)
    return ways(taken, many - deep - 1 + taken)


def growth_of(many, deep):
    """The growth, many and deep being known as right; many may be above its bound."""
    return tuple(growth_at(many, deep, at) for at in range(deep + 1))


def growth(many, deep):
    """The growth of so many corners at this depth: a tuple of deep and 1 numbers."""
    need_many_deep(many, deep)
    return growth_of(many, deep)


def count_at(grown, size):
    """How many faces of the size there are where the growth is as told."""
    deep = len(grown) - 1
    return sum(grown[i] * ways(size - i, deep - i) for i in range(size + 1))


def counts_of(many, deep):
    """The counts, many and deep being known as right; many may be above its bound."""
    grown = growth_of(many, deep)
    return tuple(count_at(grown, size) for size in range(deep + 1))


def counts(many, deep):
    """How many faces there are of each size from 0 to deep: a tuple."""
    need_many_deep(many, deep)
    return counts_of(many, deep)
