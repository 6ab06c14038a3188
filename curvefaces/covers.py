"""Covers of a curve: whether cells cross, whether cells are a cover, all covers, the lowest and the highest."""

from curvefaces.curves import need_curve
from curvefaces.errors import NoCell, TooMany
from curvefaces.helpers import choices, high_lots, is_lot_of, is_rising, low_lots, odd_blocks, without_each

MOST_COVERED = 7
MOST_DEEP_COVERED = 4


def need_covered(curve):
    """Refuse what is no curve, then a curve whose covers are not gone through."""
    need_curve(curve)
    many, deep = curve
    if many > MOST_COVERED or deep > MOST_DEEP_COVERED:
        raise TooMany("curves with covers have at most seven corners and are at most 4 deep")


def is_cell(thing, curve):
    """Whether the thing, of whatever kind, is a cell of the curve."""
    return is_lot_of(thing, curve[0]) and len(thing) == curve[1] + 1


def need_cell(curve, cell):
    """Refuse what is no cell of the curve."""
    if not is_cell(cell, curve):
        raise NoCell("a cell is a lot of just deep and 1 corners")


def row_by_turns(one, other, many):
    """How many corners, rising, can be in the one and in the other by turns, the first in the one."""
    length = 0
    # To take each corner as soon as it fits leaves the most behind it.
    for corner in range(many):
        if corner in (one if length % 2 == 0 else other):
            length += 1
    return length


def are_crossing(one, other, many):
    """Whether the two cells cross, both being known as right."""
    longest = max(row_by_turns(one, other, many), row_by_turns(other, one, many))
    # A cell has deep and 1 corners.
    return longest >= len(one) + 1


def do_cross(curve, one, other):
    """Whether the two cells of the curve cross."""
    need_covered(curve)
    need_cell(curve, one)
    need_cell(curve, other)
    return are_crossing(one, other, curve[0])


def does_any_cross(cells, many):
    """Whether any two of the cells cross."""
    return any(are_crossing(cells[at], other, many) for at in range(len(cells)) for other in cells[at + 1:])


def times_had(cells):
    """Of each lot with one corner fewer than a cell that some cell has, how many cells have it."""
    times = {}
    for cell in cells:
        for lot in without_each(cell):
            times[lot] = times.get(lot, 0) + 1
    return times


def times_due(lot, many):
    """In how many cells of a cover a lot of deep corners is, if it is in any."""
    return 1 if odd_blocks(many, lot) == 0 else 2


def is_cover(thing, curve):
    """Whether the thing, of whatever kind, is a cover of the curve."""
    need_covered(curve)
    if not isinstance(thing, tuple) or thing == ():
        return False
    # All must be cells before they are compared with one another.
    if not all(is_cell(one, curve) for one in thing) or not is_rising(thing):
        return False
    many = curve[0]
    times = times_had(thing)
    return all(times[lot] == times_due(lot, many) for lot in times) and not does_any_cross(thing, many)


def low_cells(knot):
    """The cells that come where the knot's last corner is left out, the third last one, and so on: rising."""
    return without_each(knot)[::-2]


def high_cells(knot):
    """The cells that come where another corner of the knot is left out: a rising list."""
    return without_each(knot)[-2::-2]


def exchanged(cover, going, coming):
    """The cover with some cells gone and others come, None where some that should go are not in it."""
    if not all(cell in cover for cell in going):
        return None
    return tuple(sorted([cell for cell in cover if cell not in going] + coming))


def higher_covers(cover, halves):
    """All that the cover is turned up to at the knots whose low and high cells are told."""
    turned = [exchanged(cover, low, high) for low, high in halves]
    return [other for other in turned if other is not None]


def all_covers(curve):
    """All covers of the curve, a rising list."""
    # None but the lowest can't be turned down, so all are come to from it by turns up.
    start = lowest(curve)
    many, deep = curve
    halves = [(low_cells(knot), high_cells(knot)) for knot in choices(many, deep + 2)]
    found = {start: True}
    fresh = [start]
    while fresh:
        cover = fresh.pop()
        for other in higher_covers(cover, halves):
            if other not in found:
                found[other] = True
                fresh.append(other)
    return sorted(list(found))


def lowest(curve):
    """The lowest cover of the curve."""
    need_covered(curve)
    many, deep = curve
    # Where there are deep and 1 corners alone, this is the one cell.
    return tuple(low_lots(many, deep + 1))


def highest(curve):
    """The highest cover of the curve."""
    need_covered(curve)
    many, deep = curve
    return tuple(high_lots(many, deep + 1))
