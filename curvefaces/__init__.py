"""Curvefaces: corners on a bent curve, and the faces of what they span."""
