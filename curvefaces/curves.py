"""Curves, their lots, panes and faces, and the blocks of a lot."""

from curvefaces.errors import NoCurve, NoLot
from curvefaces.helpers import is_rising, is_whole

MOST_DEEP = 6
MOST_CORNERS = 9


def is_curve(thing):
    """Whether the thing, of whatever kind, is a curve."""
    if not isinstance(thing, tuple) or len(thing) != 2:
        return False
    many, deep = thing
    if not is_whole(many) or not is_whole(deep):
        return False
    return 1 <= deep <= MOST_DEEP and deep < many <= MOST_CORNERS


def need_curve(curve):
    """Refuse what is no curve."""
    if not is_curve(curve):
        raise NoCurve("a curve is a tuple (many, deep), deep 1 to 6, many above deep and at most 9")


def is_corner(thing, many):
    """Whether the thing is one of so many corners."""
    return is_whole(thing) and 0 <= thing < many


def is_lot(thing, curve):
    """Whether the thing, of whatever kind, is a lot of the curve."""
    need_curve(curve)
    if not isinstance(thing, tuple):
        return False
    # All must be numbers before they are compared with one another.
    return all(is_corner(one, curve[0]) for one in thing) and is_rising(thing)


def need_lot(curve, lot):
    """Refuse what is no curve, then what is no lot of it."""
    if not is_lot(lot, curve):
        raise NoLot("a lot is a rising tuple of corners of the curve")


def is_pane(thing, curve):
    """Whether the thing, of whatever kind, is a pane of the curve."""
    if not is_lot(thing, curve) or len(thing) != curve[1]:
        return False
    # Only an inner block stands between two corners that are out.
    return odd_inner(curve, thing) == 0


def is_face(thing, curve):
    """Whether the thing, of whatever kind, is a face of the curve."""
    if not is_lot(thing, curve):
        return False
    # Each odd inner block needs a corner more to come to a pane.
    return odd_inner(curve, thing) <= curve[1] - len(thing)


def blocks(curve, lot):
    """The tuples of the lot's corners that stand one right behind the other."""
    need_lot(curve, lot)
    found = []
    for corner in lot:
        if found and found[-1][-1] + 1 == corner:
            found[-1] = found[-1] + (corner,)
        else:
            found.append((corner,))
    return found


def is_inner(block, many):
    """Whether the block has neither the first one of so many corners nor the last one."""
    return block[0] != 0 and block[-1] != many - 1


def odd_inner(curve, lot):
    """How many inner blocks of the lot have an odd number of corners."""
    inner = [block for block in blocks(curve, lot) if is_inner(block, curve[0])]
    return len([block for block in inner if len(block) % 2 == 1])
