"""Weighted squares: light vectors, whose weighted squares add up to a multiple of some squares."""

from squaretimes.base.ratios import Ratio
from squaretimes.square.sums import square_roots

MOST_LIGHT = 10 ** 6
_MOST_ROOT = 1000


def without_squares(number):
    """A rest and a root, the number being the rest times the square of the root; no small square divides the rest."""
    rest, root = number, 1
    for divisor in range(2, _MOST_ROOT + 1):
        if divisor * divisor > abs(rest):
            return rest, root
        while rest % (divisor * divisor) == 0:
            rest, root = rest // (divisor * divisor), root * divisor
    return rest, root


def light_vector(weights, target, many, free):
    """A vector, as light as can be, so many integers, and the sequence of all indices, with the following properties.

    The sum of the weighted squares of the vector, multiplied by the target, is the sum of the squares of the
    integers. So many entries as shall be free are 0, at weights that are not heavy. In the sequence of the indices no
    sum of the first weighted squares is 0, but where all of them are. There must be such a vector: there is one if any
    four other weights are left, and one of them has the sign of the target.
    """
    parts = [without_squares(weight) for weight in weights]
    sizes = sorted([(abs(rest), index) for index, (rest, _) in enumerate(parts)], reverse=True)
    order = [at for _, at in sizes]
    rests = [parts[at][0] for at in order]
    most = len([rest for rest in rests if abs(rest) <= MOST_LIGHT]) - free
    bound = 1
    found = _found(rests, (target, many, bound), most, (), 0)
    while found is None:
        bound = bound + 1
        found = _found(rests, (target, many, bound), most, (), 0)
    vector = [Ratio(0)] * len(weights)
    for at, root in zip(order, found[0]):
        vector[at] = Ratio(root, parts[at][1])
    return tuple(vector), found[1], order


def _found(weights, asked, most, chosen, total):
    """The first roots of which the greatest one is the bound, with the first ones chosen, and the squares, or None.

    `asked` has the target, the number of the squares and the bound; `most` tells how many more roots at light weights
    can be other than 0, `total` is the sum of the weighted squares of the chosen ones.
    """
    target, many, bound = asked
    if len(chosen) == len(weights):
        squares = square_roots(total * target, many) if max(chosen) == bound else None
        return None if squares is None else (chosen, squares)
    weight = weights[len(chosen)]
    less = most - int(abs(weight) <= MOST_LIGHT)
    last = bound if less >= 0 else 0
    for root in range(last + 1):
        more = total + weight * root * root
        if root == 0 or more != 0:
            found = _found(weights, asked, less if root else most, chosen + (root,), more)
            if found is not None:
                return found
    return None
