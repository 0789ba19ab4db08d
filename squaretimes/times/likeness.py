"""Likenesses: how a doubled algebra is found in a composing multiplication with a one.

Its elements with the squares of the algebra are made by mirrors from light vectors: a mirror leaves the weighed
squares as they are, so that the squares stay small, however long the integers of the one and of the tables are.
"""

from squaretimes.base.bundles import bundle_row
from squaretimes.base.ratios import Ratio
from squaretimes.base.tables import idle_table
from squaretimes.square.weighted import MOST_LIGHT, light_vector, without_squares


def _shared(weights, x, y):
    """The weighed product of two rows; that of a row and itself is its weighed square."""
    return sum([one * other * weight for one, other, weight in zip(x, y, weights)], start=Ratio(0))


def _added(x, factor, y):
    """The sum of a row and the other one, multiplied by a factor."""
    return tuple([one + other * factor for one, other in zip(x, y)])


def _mirrored(weights, row, normal):
    """The row with its part along the normal, whose weighed square is not 0, turned into the opposite."""
    part = _shared(weights, row, normal) * -2
    return _added(row, part.over(_shared(weights, normal, normal)), normal)


def _normal(weights, one, other):
    """A row whose mirror leads the one row to the other one, or to its opposite, if their weighed squares are equal."""
    less = _added(one, -1, other)
    return less if _shared(weights, less, less) else _added(one, 1, other)


def _combined(rows, factors):
    """The sum of rows that are multiplied by factors."""
    total = tuple([entry * 0 for entry in rows[0]])
    for row, factor in zip(rows, factors):
        total = _added(total, factor, row)
    return total


def _axis(weights, row):
    """A weighed square, an integer that no small square divides, and a row along the given one that has it."""
    norm = _shared(weights, row, row)
    rest, root = without_squares(norm.top * norm.bottom)
    return rest, _combined([row], [Ratio(norm.bottom, root)])


def _other_axes(weights, vector, places):
    """Axes that stand upright to a light vector and to each other, the lightest one first."""
    rows = idle_table(len(weights))
    found = [row for row, entry in zip(rows, vector) if not entry]
    # The part that the first few entries make, and the next unit, have one row in their plane that stands upright to
    # their sum. No such part has the weighed square 0.
    part = None
    for place in [at for at in places if vector[at]]:
        step = _combined([rows[place]], [vector[place]])
        if part is None:
            part = step
        else:
            ahead, behind = _shared(weights, part, part), _shared(weights, step, step)
            found.append(_combined([part, step], [behind, -ahead]))
            part = _added(part, 1, step)
    return _sorted_axes([_axis(weights, row) for row in found])


def _sorted_axes(axes):
    """The axes, the lightest one first."""
    order = sorted([(abs(norm), at) for at, (norm, _) in enumerate(axes)])
    return [axes[at] for _, at in order]


def likeness_of(weights, tables, one):
    """The squares of an algebra, and the table that takes its elements to rows, for a multiplication with this one."""
    if len(weights) == 1:
        return (), (one,)
    vector, (root,), places = light_vector(weights, 1, 1, len(weights) // 8 * 4)
    axes = _other_axes(weights, vector, places)
    normal = _normal(weights, _combined([vector], [Ratio(1, root)]), one)
    chosen = axes[:2]
    rows = [_mirrored(weights, row, normal) for _, row in chosen]
    if len(weights) == 8:
        product = _mirrored(weights, bundle_row(tables, rows[0], rows[1]), normal)
        norm, row = _third_axis(weights, axes, product)
        chosen = chosen + [(norm, row)]
        rows = rows + [_mirrored(weights, row, normal)]
    return tuple([-norm for norm, _ in chosen]), _images(tables, one, rows)


def _third_axis(weights, axes, product):
    """An axis that stands upright to the first two of seven axes and to the product of these, where the mirror is."""
    target = axes[0][0] * axes[1][0]
    left = axes[2:]
    # A light vector with the weighed square of the product leaves one axis free, which stands upright to it.
    vector, (root,), _ = light_vector([norm for norm, _ in left], target, 1, 1)
    light = _combined([row for _, row in left], [entry * Ratio(target, root) for entry in vector])
    norm, row = [axis for axis, entry in zip(left, vector) if not entry and abs(axis[0]) <= MOST_LIGHT][0]
    return norm, _mirrored(weights, row, _normal(weights, light, product))


def _images(tables, one, rows):
    """The rows of all units, if the rows are those of the units that double the algebra."""
    images = [one]
    for row in rows:
        images = images + [bundle_row(tables, image, row) for image in images]
    return tuple(images)
