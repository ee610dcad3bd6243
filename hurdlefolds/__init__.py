"""Folds of hurdles on a field of cells."""
