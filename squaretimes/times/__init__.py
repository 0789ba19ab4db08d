"""Multiplications that are handed in, and products of rows with their area."""
