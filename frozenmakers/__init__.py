"""Frozenmakers: makers that give one by one, frozen as text and gone on elsewhere."""
