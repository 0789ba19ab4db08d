"""Papers: how 1 is made of products of three whole eights with a primitive one."""

from squaretimes.base.ratios import ratio_of
from squaretimes.whole.codes import coordinates, twice


def _row_of(rows, element):
    """The integers by which the elements of the basis are multiplied to have a whole element as their sum."""
    return coordinates(rows, twice(element.entries, element.bottom))


def paper_of(basis, element):
    """Triples (x, y, w) of whole elements for which the products x * (y * (w * element)) add up to 1.

    The element is primitive in the order with this basis, whose rows are those of `basis_rows`.
    """
    rows = [twice(member.entries, member.bottom) for member in basis]
    norm = element.norm.top
    one = element.algebra.one()
    triples, factors = _triples_for(basis, rows, element, _row_of(rows, one))
    paper = [(x.scaled(ratio_of(factor, 1)), y, w) for (x, y, w), factor in zip(triples, factors) if factor]
    rest = one
    for x, y, w in paper:
        rest = rest - x * (y * (w * element))
    # What is left is a multiple of the norm, which is the product of the mate and the element.
    if rest:
        paper.append((rest.scaled(ratio_of(1, norm)), one, element.mate()))
    return tuple(paper)


def _triples_for(basis, rows, element, wanted):
    """Triples of the basis, and factors for which their products add up to what is wanted, but for multiples."""
    norm = element.norm.top
    kept = [([norm * int(place == at) for place in range(len(rows))], []) for at in range(len(rows))]
    triples = [(x, y, w) for x in basis for y in basis for w in basis]
    chosen = []
    at = 0
    left, factors = _reduced(kept, wanted, norm)
    # The products of all triples have each whole element as a sum of their multiples: the triples are enough.
    while any(left):
        x, y, w = triples[at]
        at = at + 1
        row = [entry % norm for entry in _row_of(rows, x * (y * (w * element)))]
        if any(_reduced(kept, row, norm)[0]):
            kept = _with_row(kept, row, len(chosen), norm)
            chosen.append((x, y, w))
            left, factors = _reduced(kept, wanted, norm)
    return chosen, factors


def _reduced(kept, row, norm):
    """What is left of a row when multiples of the kept rows are taken away, and the factors of the triples in these.

    Each kept row has 0 ahead of its own place; with it stand the factors of the triples whose products it is the sum
    of, but for multiples of the norm.
    """
    left = list(row)
    total = [0] * max([len(factors) for _, factors in kept])
    for place, (leader, factors) in enumerate(kept):
        times = left[place] // leader[place]
        left = _mixed(1, left, -times, leader, norm)
        total = _mixed(1, total, times, factors, norm)
    return left, total


def _mixed(one, row, other, more, norm):
    """The sum of two rows that are multiplied by integers, but for multiples of the norm."""
    size = max(len(row), len(more))
    return [(one * entry + other * added) % norm for entry, added in zip(_filled(row, size), _filled(more, size))]


def _filled(row, size):
    """The row with zeros behind it up to a size."""
    return row + [0] * (size - len(row))


def _with_row(kept, row, at, norm):
    """The kept rows of all sums of multiples of the kept ones and of a further one, the product of the triple at at."""
    rows = []
    factors = [0] * at + [1]
    for place, (leader, told) in enumerate(kept):
        if row[place]:
            shared, one, other = _shared(leader[place], row[place])
            ahead, behind = row[place] // shared, leader[place] // shared
            rows.append((_mixed(one, leader, other, row, norm), _mixed(one, told, other, factors, norm)))
            row, factors = _mixed(behind, row, -ahead, leader, norm), _mixed(behind, factors, -ahead, told, norm)
        else:
            rows.append((leader, told))
    return rows


def _shared(number, other):
    """The greatest common divisor of two integers above 0, and what they are multiplied by to have it as their sum."""
    one, two = (number, 1, 0), (other, 0, 1)
    while two[0]:
        times = one[0] // two[0]
        one, two = two, tuple([ahead - times * behind for ahead, behind in zip(one, two)])
    return one
