"""A desk: it keeps a curve and a cover of it, is told lines and answers with texts."""

from curvefaces.counts import counts
from curvefaces.covers import lowest
from curvefaces.curves import is_face, is_pane, need_lot
from curvefaces.errors import NoLine, NoNumber
from curvefaces.helpers import is_lot_of
from curvefaces.most import missing
from curvefaces.panes import panes
from curvefaces.sides import high_panes, low_panes
from curvefaces.texts import FIGURES, read_lot, show, show_lot
from curvefaces.turns import downs, steps_between, turned_down, turned_up, ups

FIRST_CURVE = (2, 1)

# What stands behind the first word of each line: M and D are figures, K is a lot.
LINES = {
    "curve": ("M", "D"), "up": ("K",), "down": ("K",), "back": (),
    "told": (), "ups": (), "downs": (), "panes": (), "low": (), "high": (), "missing": (), "counts": (),
    "face": ("K",), "pane": ("K",), "steps": (),
}


def read_word(word, kind):
    """The figure or the lot that the word is written for, None where there is none."""
    if kind != "K":
        return FIGURES.get(word)
    lot = read_lot(word)
    # Any single figures make a line; whether the curve has such corners is asked behind that.
    return lot if is_lot_of(lot, len(FIGURES)) else None


def read_line(line):
    """The first word of the line, and a list of what is written behind it."""
    words = line.split(" ") if isinstance(line, str) else [""]
    kinds = LINES.get(words[0])
    if kinds is None or len(kinds) != len(words) - 1:
        raise NoLine("a desk has no such line")
    given = [read_word(word, kind) for word, kind in zip(words[1:], kinds)]
    if None in given:
        raise NoLine("figures are single, and a lot's figures rise")
    return (words[0], given)


def show_lots(lots):
    """The text that lots are told as."""
    return " ".join([show_lot(lot) for lot in lots]) if lots else "none"


def yes_or_no(truth):
    """The word for a truth."""
    return "yes" if truth else "no"


# Each deed makes a new curve and cover of those kept and of what is given.


def chosen(curve, cover, given):
    """The curve that is given, and its lowest cover."""
    new = tuple(given)
    return (new, lowest(new))


def raised(curve, cover, given):
    """The curve, and the cover turned up at the knot that is given."""
    return (curve, turned_up(curve, cover, given[0]))


def lowered(curve, cover, given):
    """The curve, and the cover turned down at the knot that is given."""
    return (curve, turned_down(curve, cover, given[0]))


DEEDS = {"curve": chosen, "up": raised, "down": lowered}


# Each answer is a text that is made of the curve and the cover kept and of what is given.


def tell_all(curve, cover, given):
    """The curve and the cover's cells."""
    return show(curve, cover)


def tell_ups(curve, cover, given):
    """The knots at which the cover can be turned up."""
    return show_lots(ups(curve, cover))


def tell_downs(curve, cover, given):
    """The knots at which the cover can be turned down."""
    return show_lots(downs(curve, cover))


def tell_panes(curve, cover, given):
    """The panes of the curve."""
    return show_lots(panes(curve))


def tell_low(curve, cover, given):
    """The low panes of the curve."""
    return show_lots(low_panes(curve))


def tell_high(curve, cover, given):
    """The high panes of the curve."""
    return show_lots(high_panes(curve))


def tell_missing(curve, cover, given):
    """The missing lots of the curve."""
    return show_lots(missing(curve))


def tell_counts(curve, cover, given):
    """How many faces of each size the curve has."""
    many, deep = curve
    return " ".join([str(number) for number in counts(many, deep)])


def tell_face(curve, cover, given):
    """Whether the lot that is given is a face."""
    need_lot(curve, given[0])
    return yes_or_no(is_face(given[0], curve))


def tell_pane(curve, cover, given):
    """Whether the lot that is given is a pane."""
    need_lot(curve, given[0])
    return yes_or_no(is_pane(given[0], curve))


def tell_steps(curve, cover, given):
    """By how few turns the lowest cover becomes the one kept."""
    return str(steps_between(curve, lowest(curve), cover))


ANSWERS = {
    "told": tell_all, "ups": tell_ups, "downs": tell_downs, "panes": tell_panes, "low": tell_low, "high": tell_high,
    "missing": tell_missing, "counts": tell_counts, "face": tell_face, "pane": tell_pane, "steps": tell_steps,
}


class Desk:
    """A desk of its own: a curve, a cover of it, and what was kept ahead of each deed that stands."""

    def __init__(self):
        self.curve = FIRST_CURVE
        self.cover = lowest(FIRST_CURVE)
        self.past = []

    def say(self, line):
        """The answer to the line."""
        word, given = read_line(line)
        if word in ANSWERS:
            answer = ANSWERS[word]
            return answer(self.curve, self.cover, given)
        if word == "back":
            self.undo()
        else:
            deed = DEEDS[word]
            self.keep(deed(self.curve, self.cover, given))
        return show_lots(self.cover)

    def keep(self, made):
        """Keep the curve and the cover that a deed made, and remember those kept till now."""
        self.past.append((self.curve, self.cover))
        self.curve, self.cover = made

    def undo(self):
        """Keep the curve and the cover again that were kept ahead of the last deed that stands."""
        if not self.past:
            raise NoNumber("there is no deed that could be undone")
        self.curve, self.cover = self.past.pop()
