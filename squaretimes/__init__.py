"""Squaretimes: sums of squares, multiplied."""
