"""The panes of a curve: listed, found from faces, gone through, counted."""

from curvefaces.curves import MOST_DEEP, is_face, is_pane, need_curve, need_lot
from curvefaces.errors import NoCorner, NoFace, NoNumber, NoPane
from curvefaces.helpers import has_all, has_pane, high_lots, high_many, is_whole, low_lots, low_many, odd_blocks

MOST_MANY = 1000000000


def panes_of(many, deep):
    """All panes, many and deep being known as right: a rising list."""
    return sorted(low_lots(many, deep) + high_lots(many, deep))


def panes(curve):
    """All panes of the curve, a rising list."""
    need_curve(curve)
    many, deep = curve
    return panes_of(many, deep)


def panes_around(curve, lot):
    """All panes that have all corners of the lot, both being known as right: a rising list."""
    many, deep = curve
    # Most lots are no faces, and this is told without a look at the panes.
    if not has_pane(many, deep, lot):
        return []
    return [pane for pane in panes_of(many, deep) if has_all(pane, lot)]


def panes_at(curve, lot):
    """All panes that have all corners of the lot, a rising list."""
    need_lot(curve, lot)
    return panes_around(curve, lot)


def first_pane(curve, face):
    """The first pane that has all corners of the face."""
    if not is_face(face, curve):
        raise NoFace("a face is a lot all of whose corners some pane of the curve has")
    return panes_around(curve, face)[0]


def need_pane(curve, pane):
    """Refuse what is no curve, then what is no pane of it."""
    if not is_pane(pane, curve):
        raise NoPane("a pane has deep corners, even many between any two that are out of it")


def beyond(curve, pane, corner):
    """The other pane that has all corners of the pane but this one."""
    need_pane(curve, pane)
    # True and False would pass for the corners 1 and 0.
    if not is_whole(corner) or corner not in pane:
        raise NoCorner("the corner must be one of the pane")
    many = curve[0]
    rest = [one for one in pane if one != corner]
    others = [tuple(sorted(rest + [new])) for new in range(many) if new not in pane]
    return [other for other in others if odd_blocks(many, other) == 0][0]


def need_many_deep(many, deep):
    """Refuse numbers of corners and depths that panes and faces are not counted for."""
    if not is_whole(many) or not is_whole(deep):
        raise NoNumber("many and deep are whole numbers")
    if not 1 <= deep <= MOST_DEEP or not deep < many <= MOST_MANY:
        raise NoNumber("deep is from 1 to 6, many above deep and at most 10 ** 9")


def panes_many(many, deep):
    """How many panes there are with so many corners at this depth."""
    need_many_deep(many, deep)
    return low_many(many, deep) + high_many(many, deep)
