"""The most faces there can be: missing lots, the reach, and counts that are above those of a curve."""

from curvefaces.counts import counts_of, faces_of
from curvefaces.curves import MOST_DEEP, need_curve
from curvefaces.errors import NoCounts
from curvefaces.helpers import choices, is_whole, without_each

FEWEST_COUNTS = 3


def missing(curve):
    """The missing lots of the curve, a rising list."""
    need_curve(curve)
    many, deep = curve
    known = {lot: True for size in range(deep + 1) for lot in faces_of(many, deep, size)}
    # A lot of more corners than deep and 1 has lots within it that are no faces.
    others = [lot for size in range(1, deep + 2) for lot in choices(many, size) if lot not in known]
    return sorted([lot for lot in others if all(part in known for part in without_each(lot))])


def reach(curve):
    """The greatest k up to deep such that all lots of k corners are faces."""
    need_curve(curve)
    many, deep = curve
    # Of half of deep corners each may make an odd inner block, and for each of them
    # there is a corner more; of more corners some lot makes too many. But where one
    # corner alone is out of a lot, no block stands between two that are out.
    return deep if many == deep + 1 else deep // 2


def are_counts(thing):
    """Whether the thing, of whatever kind, is counts."""
    if not isinstance(thing, tuple) or not FEWEST_COUNTS <= len(thing) <= MOST_DEEP + 1:
        return False
    # All must be numbers before one is compared with how many there are.
    return all(is_whole(one) and one >= 0 for one in thing) and thing[1] >= len(thing)


def first_above(numbers):
    """The first size at which the counts are above those of a curve with as many corners, None if there is none."""
    if not are_counts(numbers):
        raise NoCounts("counts are a tuple of three to seven numbers, the one at 1 no less than how many")
    most = counts_of(numbers[1], len(numbers) - 1)
    above = [size for size in range(len(numbers)) if numbers[size] > most[size]]
    return above[0] if above else None
