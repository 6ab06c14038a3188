"""Cuts of corners into triangles: told, counted, numbered, and found from how many triangles each corner has."""

from curvefaces.errors import NoCut, NoNumber
from curvefaces.helpers import is_choice, is_rising, is_whole, is_within, ways

FEWEST_CORNERS = 2
MOST_CUT = 30
MOST_COUNTED = 100


def need_cut_many(many):
    """Refuse what is no number of corners that cuts are told of."""
    if not is_within(many, FEWEST_CORNERS, MOST_CUT):
        raise NoNumber("cuts are told of 2 to 30 corners")


def middles(cut):
    """Of the first corner and the last one of each triangle the corner between: a dict."""
    return {(low, high): middle for low, middle, high in cut}


def is_filled(between, low, high):
    """Whether triangles stand between the two corners as in a cut, where their middles are told."""
    sides = [(low, high)]
    while sides:
        side = sides.pop()
        first, last = side
        if last - first > 1:
            if side not in between:
                return False
            sides.append((first, between[side]))
            sides.append((between[side], last))
    return True


def is_cut_of(many, thing):
    """Whether the thing, of whatever kind, is a cut of so many corners, a number that is known as right."""
    # Where the triangles of a cut are all there, there are so many; so none is left over.
    if not isinstance(thing, tuple) or len(thing) != many - FEWEST_CORNERS:
        return False
    # All must be triangles before they are compared with one another.
    if not all(is_choice(one, many, 3) for one in thing) or not is_rising(thing):
        return False
    return is_filled(middles(thing), 0, many - 1)


def is_cut(thing, many):
    """Whether the thing, of whatever kind, is a cut of so many corners."""
    need_cut_many(many)
    return is_cut_of(many, thing)


def need_cut(many, cut):
    """Refuse a number of corners that is none, then what is no cut of so many."""
    if not is_cut(cut, many):
        raise NoCut("a cut is a rising tuple of the triangles that so many corners fall into")


def cuts_of(many):
    """How many cuts of so many corners there are, a number that is known as right."""
    triangles = many - FEWEST_CORNERS
    return ways(triangles, 2 * triangles) // (triangles + 1)


def cuts_many(many):
    """How many cuts of so many corners there are."""
    if not is_within(many, FEWEST_CORNERS, MOST_COUNTED):
        raise NoNumber("cuts are counted for 2 to 100 corners")
    return cuts_of(many)


def cuts_with(many, middle):
    """How many cuts of so many corners have the triangle of the first corner, this one and the last one."""
    return cuts_of(middle + 1) * cuts_of(many - middle)


def triangles_at(low, many, number):
    """The triangles of the cut of this number of so many corners, the first of which is low: a list in no order."""
    if many == FEWEST_CORNERS:
        return []
    middle = 1
    left = number
    while left >= cuts_with(many, middle):
        left -= cuts_with(many, middle)
        middle += 1
    ahead, behind = divmod(left, cuts_of(many - middle))
    triangle = (low, low + middle, low + many - 1)
    return [triangle] + triangles_at(low, middle + 1, ahead) + triangles_at(low + middle, many - middle, behind)


def cut_at(many, number):
    """The cut of so many corners that has this number in their order."""
    need_cut_many(many)
    if not is_within(number, 0, cuts_of(many) - 1):
        raise NoNumber("cuts are numbered from 0 to how many there are less 1")
    return tuple(sorted(triangles_at(0, many, number)))


def number_between(between, low, high):
    """The number of the cut of the corners from low to high, where the middles of its triangles are told."""
    if high - low == 1:
        return 0
    middle = between[(low, high)]
    many = high - low + 1
    lesser = sum(cuts_with(many, other) for other in range(1, middle - low))
    ahead = number_between(between, low, middle)
    behind = number_between(between, middle, high)
    return lesser + ahead * cuts_of(high - middle + 1) + behind


def number_of(many, cut):
    """The number that the cut of so many corners has in their order."""
    need_cut(many, cut)
    return number_between(middles(cut), 0, many - 1)


def ears(many, cut):
    """Of each corner how many triangles of the cut have it: a tuple."""
    need_cut(many, cut)
    had = [corner for triangle in cut for corner in triangle]
    return tuple(had.count(corner) for corner in range(many))


def need_ears(numbers):
    """Refuse what is no tuple of 2 to 30 whole numbers."""
    if not isinstance(numbers, tuple) or not FEWEST_CORNERS <= len(numbers) <= MOST_CUT:
        raise NoNumber("there are 2 to 30 numbers, one for each corner")
    if not all(is_whole(number) for number in numbers):
        raise NoNumber("each corner is in a whole number of triangles")


def cut_by(numbers):
    """The cut whose ears the numbers are, None where there is none."""
    need_ears(numbers)
    left = list(numbers)
    corners = list(range(len(numbers)))
    triangles = []
    # A corner with one triangle alone stands in it with its two neighbours, so it can go
    # with this triangle; each cut of three corners or more has such a corner.
    while len(corners) > FEWEST_CORNERS:
        if 1 not in left:
            return None
        at = left.index(1)
        after = (at + 1) % len(corners)
        triangles.append(tuple(sorted([corners[at - 1], corners[at], corners[after]])))
        left[at - 1] -= 1
        left[after] -= 1
        del left[at], corners[at]
    return tuple(sorted(triangles)) if left == [0, 0] else None
