"""Products by halves: what doubling makes of tuples of integers."""


def mate_of(entries):
    """The mate: all entries behind the first one with the other sign."""
    return (entries[0],) + tuple([-entry for entry in entries[1:]])


def product_of(squares, one, other):
    """The product of two tuples of entries in the doubled algebra of the squares."""
    if not squares:
        return (one[0] * other[0],)
    half = len(one) // 2
    less, square = squares[:-1], squares[-1]
    x, y, u, v = one[:half], one[half:], other[:half], other[half:]
    ahead = _added(product_of(less, x, u), square, product_of(less, mate_of(v), y))
    return ahead + _added(product_of(less, v, x), 1, product_of(less, y, mate_of(u)))


def _added(one, factor, other):
    """The sum of one tuple and the other one, multiplied by the factor."""
    return tuple([entry + factor * more for entry, more in zip(one, other)])


def unit_norms(squares):
    """The norms of the units of the doubled algebra of the squares."""
    norms = (1,)
    for square in squares:
        norms = norms + tuple([-square * norm for norm in norms])
    return norms


def norm_of(squares, entries):
    """The norm of a tuple of entries: the sum of their weighted squares."""
    return sum([norm * entry * entry for norm, entry in zip(unit_norms(squares), entries)])


def unit_entries(size, at):
    """The entries of a unit: 1 at its index and 0 elsewhere."""
    return tuple([int(place == at) for place in range(size)])
