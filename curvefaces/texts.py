"""A curve and lots of it, written as a text and read from it."""

from curvefaces.curves import is_curve, need_curve
from curvefaces.errors import NoLot, NoText
from curvefaces.helpers import is_lot_of, is_rising

FIGURES = {"0": 0, "1": 1, "2": 2, "3": 3, "4": 4, "5": 5, "6": 6, "7": 7, "8": 8, "9": 9}
MARK = ":"
LOT_OF_NONE = "-"


def are_lots(thing, curve):
    """Whether the thing, of whatever kind, is a rising tuple of lots of the curve."""
    if not isinstance(thing, tuple):
        return False
    # All must be lots before they are compared with one another.
    return all(is_lot_of(one, curve[0]) for one in thing) and is_rising(thing)


def show_lot(lot):
    """The word that a lot is written as."""
    return "".join(str(corner) for corner in lot) if lot else LOT_OF_NONE


def show(curve, lots):
    """The text that the curve and the lots of it are written as."""
    need_curve(curve)
    if not are_lots(lots, curve):
        raise NoLot("lots are a rising tuple of lots of the curve")
    words = [str(curve[0]), str(curve[1]), MARK] + [show_lot(lot) for lot in lots]
    return " ".join(words)


def read_lot(word):
    """The tuple that a word is written for; None, or None within it, where it is none."""
    if word == LOT_OF_NONE:
        return ()
    # Without any figure a word would pass for the lot of none.
    return tuple(FIGURES.get(sign) for sign in word) if word else None


def read_words(words):
    """The tuple (curve, lots) that the words are written for, None where there is none."""
    if len(words) < 3 or words[2] != MARK:
        return None
    curve = (FIGURES.get(words[0]), FIGURES.get(words[1]))
    lots = tuple(read_lot(word) for word in words[3:])
    return (curve, lots) if is_curve(curve) and are_lots(lots, curve) else None


def read(text):
    """The tuple (curve, lots) that is written as the text."""
    found = read_words(text.split(" ")) if isinstance(text, str) else None
    if found is None:
        raise NoText("a curve and its lots are written as in 6 3 : 012 045")
    return found
