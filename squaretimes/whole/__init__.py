"""Whole numbers of eight parts."""
