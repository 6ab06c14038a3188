"""Turns: a cover turned up or down at a knot, turned all the way up, and become another by as few turns as can be."""

from curvefaces.covers import exchanged, high_cells, is_cover_of, knots, low_cells, need_covered, steps_from, turns_up
from curvefaces.errors import NoCover, NoLot, NoTurn
from curvefaces.helpers import has_all, is_choice


def need_knot(curve, knot):
    """Refuse what is no knot of the curve, which is known as right."""
    if not is_choice(knot, curve[0], curve[1] + 2):
        raise NoLot("a knot is a lot of just deep and 2 corners")


def need_cover(curve, cover):
    """Refuse what is no cover of the curve, which is known as right."""
    if not is_cover_of(curve, cover):
        raise NoCover("a cover is a rising tuple of cells that fit together over all that the curve spans")


def halves(curve, knot):
    """The low cells of the knot and its high ones: a tuple of two rising tuples."""
    need_covered(curve)
    need_knot(curve, knot)
    return (tuple(low_cells(knot)), tuple(high_cells(knot)))


def need_turned(curve, cover, knot):
    """Refuse what is no curve with covers, then what is no cover of it, then what is no knot."""
    need_covered(curve)
    need_cover(curve, cover)
    need_knot(curve, knot)


def turned(cover, going, coming):
    """The cover with some cells gone and others come, refused where some that should go are not in it."""
    found = exchanged(cover, going, coming)
    if found is None:
        raise NoTurn("the cover has not all the cells of the knot that should go")
    return found


def turned_up(curve, cover, knot):
    """The cover turned up at the knot."""
    need_turned(curve, cover, knot)
    return turned(cover, low_cells(knot), high_cells(knot))


def turned_down(curve, cover, knot):
    """The cover turned down at the knot."""
    need_turned(curve, cover, knot)
    return turned(cover, high_cells(knot), low_cells(knot))


def ups_of(curve, cover):
    """The knots at which the cover can be turned up, both being known as right: a rising list."""
    return [knot for knot in knots(curve) if has_all(cover, low_cells(knot))]


def ups(curve, cover):
    """All knots at which the cover can be turned up, a rising list."""
    need_covered(curve)
    need_cover(curve, cover)
    return ups_of(curve, cover)


def downs(curve, cover):
    """All knots at which the cover can be turned down, a rising list."""
    need_covered(curve)
    need_cover(curve, cover)
    return [knot for knot in knots(curve) if has_all(cover, high_cells(knot))]


def way_up(curve, cover):
    """Knots at which the cover is turned up, one behind the other, till it is the highest: a list."""
    way = []
    now = cover
    left = ups(curve, cover)
    # None but the highest can't be turned up, so whichever knot is taken, the way ends there.
    while left:
        knot = left[0]
        way.append(knot)
        now = turned(now, low_cells(knot), high_cells(knot))
        left = ups_of(curve, now)
    return way


def steps_between(curve, one, other):
    """By how few turns, up and down, the one cover becomes the other."""
    need_covered(curve)
    need_cover(curve, one)
    need_cover(curve, other)
    rising = turns_up(curve)
    falling = [(coming, going) for going, coming in rising]
    return steps_from(one, rising + falling)[other]
