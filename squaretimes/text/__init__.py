"""Texts of elements and formulas."""
