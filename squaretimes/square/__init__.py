"""Sums of squares of numbers."""
