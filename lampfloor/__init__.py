"""Lampfloor: who sees whom on floors of cells."""
