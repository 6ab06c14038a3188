"""The low panes of a curve and the high ones: told apart, listed, counted."""

from curvefaces.curves import need_curve
from curvefaces.helpers import high_lots, high_many, low_lots, low_many
from curvefaces.panes import need_many_deep, need_pane


def is_low(curve, pane):
    """Whether even many corners of the pane stand behind the last corner that is out of it."""
    need_pane(curve, pane)
    last_out = max([corner for corner in range(curve[0]) if corner not in pane])
    return len([corner for corner in pane if corner > last_out]) % 2 == 0


def low_panes(curve):
    """The low panes of the curve, a rising list."""
    need_curve(curve)
    many, deep = curve
    return low_lots(many, deep)


def high_panes(curve):
    """The high panes of the curve, a rising list."""
    need_curve(curve)
    many, deep = curve
    return high_lots(many, deep)


def sides_many(many, deep):
    """How many panes of so many corners at this depth are low, and how many high: a tuple."""
    need_many_deep(many, deep)
    return (low_many(many, deep), high_many(many, deep))
