"""Sign tables, and the formulas that are made of them."""
