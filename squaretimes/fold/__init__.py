"""Folded tables: rules with quotients of the unknowns."""
