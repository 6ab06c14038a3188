"""Covers of a curve: whether cells cross, whether cells are a cover, all covers, the lowest and the highest."""

from curvefaces.curves import need_curve
from curvefaces.errors import NoCell, TooMany
from curvefaces.helpers import choices, has_all, high_lots, is_choice, is_rising, low_lots, odd_blocks, without_each

MOST_COVERED = 7
MOST_DEEP_COVERED = 4


def need_covered(curve):
    """Refuse what is no curve, then a curve whose covers are not gone through."""
    need_curve(curve)
    many, deep = curve
    if many > MOST_COVERED or deep > MOST_DEEP_COVERED:
        raise TooMany("curves with covers have at most seven corners and are at most 4 deep")


def is_cell(thing, curve):
    """Whether the thing, of whatever kind, is a cell of the curve."""
    return is_choice(thing, curve[0], curve[1] + 1)


def need_cell(curve, cell):
    """Refuse what is no cell of the curve."""
    if not is_cell(cell, curve):
        raise NoCell("a cell is a lot of just deep and 1 corners")


def row_by_turns(one, other, many):
    """How many corners, rising, can be in the one and in the other by turns, the first in the one."""
    length = 0
    # To take each corner as soon as it fits leaves the most behind it.
    for corner in range(many):
        if corner in (one if length % 2 == 0 else other):
            length += 1
    return length


def are_crossing(one, other, many):
    """Whether the two cells cross, both being known as right."""
    longest = max(row_by_turns(one, other, many), row_by_turns(other, one, many))
    # A cell has deep and 1 corners.
    return longest >= len(one) + 1


def do_cross(curve, one, other):
    """Whether the two cells of the curve cross."""
    need_covered(curve)
    need_cell(curve, one)
    need_cell(curve, other)
    return are_crossing(one, other, curve[0])


def does_any_cross(cells, many):
    """Whether any two of the cells cross."""
    return any(are_crossing(cells[at], other, many) for at in range(len(cells)) for other in cells[at + 1:])


def times_had(cells):
    """Of each lot with one corner fewer than a cell that some cell has, how many cells have it."""
    times = {}
    for cell in cells:
        for lot in without_each(cell):
            times[lot] = times.get(lot, 0) + 1
    return times


def times_due(lot, many):
    """In how many cells of a cover a lot of deep corners is, if it is in any."""
    return 1 if odd_blocks(many, lot) == 0 else 2


def is_cover_of(curve, thing):
    """Whether the thing, of whatever kind, is a cover of the curve, which is known as right."""
    if not isinstance(thing, tuple) or thing == ():
        return False
    # All must be cells before they are compared with one another.
    if not all(is_cell(one, curve) for one in thing) or not is_rising(thing):
        return False
    many = curve[0]
    times = times_had(thing)
    return all(times[lot] == times_due(lot, many) for lot in times) and not does_any_cross(thing, many)


def is_cover(thing, curve):
    """Whether the thing, of whatever kind, is a cover of the curve."""
    need_covered(curve)
    return is_cover_of(curve, thing)


def low_cells(knot):
    """The cells that come where the knot's last corner is left out, the third last one, and so on: rising."""
    return without_each(knot)[::-2]


def high_cells(knot):
    """The cells that come where another corner of the knot is left out: a rising list."""
    return without_each(knot)[-2::-2]


def knots(curve):
    """All knots of the curve, a rising list."""
    many, deep = curve
    return choices(many, deep + 2)


def turns_up(curve):
    """Of each knot of the curve the cells that go and those that come where a cover is turned up."""
    return [(low_cells(knot), high_cells(knot)) for knot in knots(curve)]


def exchanged(cover, going, coming):
    """The cover with some cells gone and others come, None where some that should go are not in it."""
    if not has_all(cover, going):
        return None
    return tuple(sorted([cell for cell in cover if cell not in going] + coming))


def by_first_going(turns):
    """The turns, listed by the first one of the cells that go: a dict."""
    found = {}
    for going, coming in turns:
        found.setdefault(going[0], []).append((going, coming))
    return found


def turned_covers(cover, listed):
    """All that the cover becomes by one of the turns, which are listed by the first cell that goes."""
    # Turns that begin with a cell that the cover has not are not even tried.
    turned = [exchanged(cover, going, coming) for cell in cover for going, coming in listed.get(cell, [])]
    return [other for other in turned if other is not None]


def steps_from(start, turns):
    """Of each cover that the first one becomes by such turns, by how few of them: a dict."""
    listed = by_first_going(turns)
    steps = {start: 0}
    fresh = [start]
    while fresh:
        found = []
        for cover in fresh:
            for other in turned_covers(cover, listed):
                if other not in steps:
                    steps[other] = steps[cover] + 1
                    found.append(other)
        fresh = found
    return steps


def all_covers(curve):
    """All covers of the curve, a rising list."""
    # None but the lowest can't be turned down, so all are come to from it by turns up.
    start = lowest(curve)
    return sorted(list(steps_from(start, turns_up(curve))))


def lowest(curve):
    """The lowest cover of the curve."""
    need_covered(curve)
    many, deep = curve
    # Where there are deep and 1 corners alone, this is the one cell.
    return tuple(low_lots(many, deep + 1))


def highest(curve):
    """The highest cover of the curve."""
    need_covered(curve)
    many, deep = curve
    return tuple(high_lots(many, deep + 1))
