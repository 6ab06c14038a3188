"""Curves, their lots, panes and faces, and the blocks of a lot."""

from curvefaces.errors import NoCurve, NoLot
from curvefaces.helpers import has_pane, is_lot_of, is_whole, odd_blocks

MOST_DEEP = 6
MOST_CORNERS = 9


def is_curve(thing):
    """Whether the thing, of whatever kind, is a curve."""
    if not isinstance(thing, tuple) or len(thing) != 2:
        return False
    many, deep = thing
    if not is_whole(many) or not is_whole(deep):
        return False
    return 1 <= deep <= MOST_DEEP and deep < many <= MOST_CORNERS


def need_curve(curve):
    """Refuse what is no curve."""
    if not is_curve(curve):
        raise NoCurve("a curve is a tuple (many, deep), deep 1 to 6, many above deep and at most 9")


def is_lot(thing, curve):
    """Whether the thing, of whatever kind, is a lot of the curve."""
    need_curve(curve)
    return is_lot_of(thing, curve[0])


def need_lot(curve, lot):
    """Refuse what is no curve, then what is no lot of it."""
    if not is_lot(lot, curve):
        raise NoLot("a lot is a rising tuple of corners of the curve")


def is_pane(thing, curve):
    """Whether the thing, of whatever kind, is a pane of the curve."""
    # Only an inner block stands between two corners that are out.
    return is_lot(thing, curve) and len(thing) == curve[1] and odd_blocks(curve[0], thing) == 0


def is_face(thing, curve):
    """Whether the thing, of whatever kind, is a face of the curve."""
    return is_lot(thing, curve) and has_pane(curve[0], curve[1], thing)


def blocks(curve, lot):
    """The tuples of the lot's corners that stand one right behind the other."""
    need_lot(curve, lot)
    found = []
    for corner in lot:
        if found and found[-1][-1] + 1 == corner:
            found[-1] = found[-1] + (corner,)
        else:
            found.append((corner,))
    return found


def odd_inner(curve, lot):
    """How many inner blocks of the lot have an odd number of corners."""
    need_lot(curve, lot)
    return odd_blocks(curve[0], lot)
