"""Planeyard: nets drawn flat, or a knot shown that no flat drawing has."""
