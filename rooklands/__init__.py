"""Rooklands: rooks that do not meet."""
