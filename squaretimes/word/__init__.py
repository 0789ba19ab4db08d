"""Words of letters, and worlds of units."""
