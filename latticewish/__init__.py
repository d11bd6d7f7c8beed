"""Formulas with fixed points over any finite distributive lattice of truth values."""
