"""Weighted squares: light vectors, whose weighted squares add up to a multiple of some squares."""

from squaretimes.base.integers import sign_of
from squaretimes.base.ratios import Ratio
from squaretimes.square.sums import square_roots

_MOST_ROOT = 1000
# Five weights, not all of one sign, always have integers whose weighted squares add up to 0: four and the target.
_MOST_PLACES = 4


def without_squares(number):
    """A rest and a root, the number being the rest times the square of the root; no small square divides the rest."""
    rest, root = number, 1
    for divisor in range(2, _MOST_ROOT + 1):
        if divisor * divisor > abs(rest):
            return rest, root
        while rest % (divisor * divisor) == 0:
            rest, root = rest // (divisor * divisor), root * divisor
    return rest, root


def light_vector(weights, target, many):
    """A vector, as light as can be, so many integers, and the indices of some weights, with the following properties.

    The sum of the weighted squares of the vector, multiplied by the target, is the sum of the squares of the
    integers. All entries at other indices are 0, and in the sequence of the indices no sum of the first weighted
    squares is 0, but where all of them are. There must be such a vector.
    """
    parts = [without_squares(weight) for weight in weights]
    places = _places([rest for rest, _ in parts], sign_of(target))
    roots, squares = _roots([parts[at][0] for at in places], target, many)
    vector = [Ratio(0)] * len(weights)
    for at, root in zip(places, roots):
        vector[at] = Ratio(root, parts[at][1])
    return tuple(vector), squares, places


def _places(weights, sign):
    """The indices of at most four light weights, the heaviest one first, one of them with the sign."""
    order = sorted([(abs(weight), at) for at, weight in enumerate(weights)])
    ahead = [at for _, at in order if sign_of(weights[at]) == sign][:1]
    others = [at for _, at in order if at not in ahead][:_MOST_PLACES - 1]
    chosen = [(abs(weights[at]), at) for at in ahead + others]
    return [at for _, at in sorted(chosen, reverse=True)]


def _roots(weights, target, many):
    """The least roots by their greatest one, not all 0, and the integers whose squares they make."""
    bound = 1
    found = _found(weights, target, many, bound, ())
    while found is None:
        bound = bound + 1
        found = _found(weights, target, many, bound, ())
    return found


def _found(weights, target, many, bound, chosen):
    """The first such roots, of which the greatest one is the bound and the first ones are chosen, or None."""
    total = sum([weight * root * root for weight, root in zip(weights, chosen)])
    if total == 0 and any(chosen):
        return None
    if len(chosen) == len(weights):
        squares = square_roots(total * target, many) if max(chosen) == bound else None
        return None if squares is None else (chosen, squares)
    for root in range(bound + 1):
        found = _found(weights, target, many, bound, chosen + (root,))
        if found is not None:
            return found
    return None
