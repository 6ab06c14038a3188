"""Corners moved: lots turned about, moved on and named by an order, orders that keep a curve, what is at a corner."""

from curvefaces.curves import need_curve, need_lot
from curvefaces.errors import NoCorner, NoOrder, TooMany
from curvefaces.helpers import has_all, is_whole, is_within
from curvefaces.panes import panes_of

MOST_ORDERED = 6


def turned_about(curve, lot):
    """The lot with each corner as far from the end as it was from the start."""
    need_lot(curve, lot)
    return tuple(curve[0] - 1 - corner for corner in lot[::-1])


def moved_on(curve, lot):
    """The lot with each corner become the next one, the last one the first."""
    need_lot(curve, lot)
    return tuple(sorted([(corner + 1) % curve[0] for corner in lot]))


def is_order_of(many, thing):
    """Whether the thing, of whatever kind, is a tuple of all of so many corners, each once."""
    if not isinstance(thing, tuple) or len(thing) != many:
        return False
    # All must be numbers before they are compared with one another.
    return all(is_whole(one) for one in thing) and sorted(thing) == list(range(many))


def named_by(order, lot):
    """The lot as it is named by the order, both being known as right."""
    return tuple(sorted([order[corner] for corner in lot]))


def named(curve, lot, order):
    """The lot as it is named by the order."""
    need_lot(curve, lot)
    if not is_order_of(curve[0], order):
        raise NoOrder("an order is a tuple of all corners of the curve, each once")
    return named_by(order, lot)


def are_kept(order, lots):
    """Whether each of the lots is named by the order as one of them."""
    return has_all(lots, [named_by(order, lot) for lot in lots])


def does_keep(thing, curve):
    """Whether the thing, of whatever kind, is an order that keeps the curve."""
    need_curve(curve)
    many, deep = curve
    return is_order_of(many, thing) and are_kept(thing, panes_of(many, deep))


def orders(many):
    """All tuples of so many corners, each once: a rising list."""
    found = [()]
    for place in range(many):
        found = [some + (corner,) for some in found for corner in range(many) if corner not in some]
    return found


def keepers(curve):
    """All orders that keep the curve, a rising list."""
    need_curve(curve)
    many, deep = curve
    if many > MOST_ORDERED:
        raise TooMany("orders are gone through for at most six corners")
    lots = panes_of(many, deep)
    return [order for order in orders(many) if are_kept(order, lots)]


def without(lot, corner):
    """The lot without the corner, each corner above it being one less."""
    return tuple(other if other < corner else other - 1 for other in lot if other != corner)


def at_corner(curve, corner):
    """The panes that have the corner, each without it, the corners above being one less: a rising list."""
    need_curve(curve)
    many, deep = curve
    if not is_within(corner, 0, many - 1):
        raise NoCorner("a corner of the curve is a whole number from 0 to many less 1")
    return sorted([without(pane, corner) for pane in panes_of(many, deep) if corner in pane])
