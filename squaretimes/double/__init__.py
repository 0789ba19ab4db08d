"""Doubled algebras, and the eights among them."""
