"""Frames of eights: three elements that tell how an eight is alike the plainest one of its kind.

The frame of a definite eight has elements with the squares -1, that of another eight has elements with the squares 1.
"""

from squaretimes.base.ratios import Ratio, ratio_of
from squaretimes.double.doubled import element_in
from squaretimes.double.products import unit_norms
from squaretimes.square.sums import square_roots
from squaretimes.square.weighted import light_vector


def frame_of(algebra):
    """Images of the plainest eight of the same kind in this one."""
    return _definite_frame(algebra) if algebra.is_definite else _split_frame(algebra)


def _combined(parts, factors):
    """The sum of elements that are multiplied by factors."""
    return sum([part.scaled(factor) for part, factor in zip(parts, factors)], start=parts[0].scaled(0))


def _pure(algebra, vector):
    """The element with the trace 0 and these entries behind the first one."""
    return element_in(algebra, (Ratio(0),) + tuple(vector))


def _definite_frame(algebra):
    """Three elements with the squares -1."""
    norms = unit_norms(algebra.squares)[1:]
    vector, (root,), _ = light_vector(norms, 1, 1, 3)
    x = _pure(algebra, vector).scaled(Ratio(1, root))
    # The other units stand upright to x. Multiplied by 1 and x, one such element has all sums of two squares times its
    # norm as norms: its own norm is to be a sum of two squares, so that 1 is among them.
    free = [at for at, entry in enumerate(vector) if not entry]
    upright, roots, _ = light_vector([norms[at] for at in free], 1, 2, 0)
    other = _pure(algebra, [_entry_at(at, free, upright) for at in range(len(norms))])
    y = _combined((algebra.one(), x), roots) * other.scaled(Ratio(1).over(other.norm))
    third = _upright(algebra, (x, y, x * y))
    # Likewise for sums of four squares: each integer above 0 is one.
    top, bottom = third.norm.top, third.norm.bottom
    roots = square_roots(top * bottom, 4)
    z = (_combined((algebra.one(), x, y, x * y), roots) * third).scaled(ratio_of(1, top))
    return x, y, z


def _entry_at(place, places, entries):
    """The entry for a place, if it is one of the places, and 0 otherwise."""
    return entries[places.index(place)] if place in places else Ratio(0)


def _split_frame(algebra):
    """Three elements with the squares 1, in an eight that is not definite."""
    norms = unit_norms(algebra.squares)[1:]
    vector, (root,), _ = light_vector(norms, -1, 1, 3)
    x = _pure(algebra, vector).scaled(Ratio(1, root))
    _, least = min([(abs(norms[at]), at) for at, entry in enumerate(vector) if not entry])
    other = algebra.units()[least + 1]
    third = _upright(algebra, (x, other, x * other))
    return x, _with_square_one(x, other), _with_square_one(x, third)


def _with_square_one(x, other):
    """An element with the square 1 made of an element that anticommutes with x, whose square is 1, and its product."""
    # The squares of both have other signs: 1 is to be the difference of two squares, times that of the element.
    part = Ratio(-1).over(other.norm)
    half = Ratio(1, 2)
    return _combined((other, x * other), ((part + 1) * half, (part - 1) * half))


def _upright(algebra, parts):
    """An element with the trace 0 and another norm than 0 that stands upright to some such parts."""
    rests = [_rest(unit, parts) for unit in algebra.units()[1:]]
    # If the rests of all units have the norm 0, two of them have a sum with another norm.
    sums = [one + other for one in rests for other in rests]
    return [rest for rest in rests + sums if rest.norm][0]


def _rest(element, parts):
    """What is left of an element when its parts along some others, upright to each other, are taken away."""
    rest = element
    for part in parts:
        rest = rest - part.scaled(_shared(element, part).over(part.norm))
    return rest


def _shared(one, other):
    """The half of the trace of the product of an element and the mate of the other one."""
    return (one * other.mate()).trace * Ratio(1, 2)
