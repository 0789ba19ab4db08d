"""Designs of families, and a desk for things and what is said of them."""
