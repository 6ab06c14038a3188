"""What is refused, and by which error."""


class CurveError(ValueError):
    """Whatever this program refuses."""


class NoCurve(CurveError):
    """What is handed in as a curve is none."""


class NoLot(CurveError):
    """What is handed in as a lot, or as lots, of a curve is none."""


class NoPane(CurveError):
    """What is handed in as a pane of a curve is none."""


class NoFace(CurveError):
    """What is handed in as a face of a curve is none."""


class NoCell(CurveError):
    """What is handed in as a cell of a curve is none."""


class NoCorner(CurveError):
    """What is handed in as a corner is none that fits."""


class NoNumber(CurveError):
    """What is handed in as a number is no whole number as told."""


class NoCounts(CurveError):
    """What is handed in as counts is none."""


class NoCover(CurveError):
    """What is handed in as a cover of a curve is none."""


class NoTurn(CurveError):
    """A cover can't be turned so at the knot."""


class NoCut(CurveError):
    """What is handed in as a cut is none."""


class NoOrder(CurveError):
    """What is handed in as an order of a curve is none."""


class TooMany(CurveError):
    """A curve has more corners, or is deeper, than is gone through."""


class NoText(CurveError):
    """What is handed in is not written as a curve and its lots are."""


class NoLine(CurveError):
    """What a desk is told is none of its lines."""
