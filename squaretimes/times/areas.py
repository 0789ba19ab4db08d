"""Products of two rows that stand upright to both and have their area as their length."""

from squaretimes.base.bundles import bundle_row, is_square_bundle
from squaretimes.base.integers import is_integer
from squaretimes.base.ratios import Ratio, check_ratios, over_one_bottom, ratio_of
from squaretimes.double.products import product_of, unit_entries
from squaretimes.errors import InvalidNumber, InvalidOperation, InvalidRatio, InvalidTable
from squaretimes.times.handed import Times

MAX_UNKNOWNS = 9
_TOLD_SIZES = (1, 3, 7)


def _check_tables(value):
    """Refuses every value but a tuple of as many square tables as each has rows, nine at most."""
    if not is_square_bundle(value, MAX_UNKNOWNS):
        raise InvalidTable("no tables of a product of rows")


def row_product(tables, one, other):
    """The product of two rows that is told by tables."""
    _check_tables(tables)
    check_ratios(one, len(tables), len(tables))
    check_ratios(other, len(tables), len(tables))
    return bundle_row(tables, one, other)


def area(one, other):
    """The told area product of two rows of 1, 3 or 7 members."""
    check_ratios(one, 1, max(_TOLD_SIZES))
    if len(one) not in _TOLD_SIZES:
        raise InvalidRatio("a row of other than 1, 3 or 7 members")
    check_ratios(other, len(one), len(one))
    squares = (-1,) * len(one).bit_length()
    tops, bottom = over_one_bottom(one)
    more, below = over_one_bottom(other)
    entries = product_of(squares, (0,) + tuple(tops), (0,) + tuple(more))
    return tuple([ratio_of(entry, bottom * below) for entry in entries[1:]])


def area_tables(size):
    """The tables of the told area product."""
    if not (is_integer(size) and size in _TOLD_SIZES):
        raise InvalidNumber(size)
    units = [unit_entries(size, at) for at in range(size)]
    return tuple([tuple([area(unit, other) for other in units]) for unit in units])


def is_area_product(value):
    """Whether the value is a tuple of tables that tells an area product."""
    return is_square_bundle(value, MAX_UNKNOWNS) and _break_of(value) is None


def broken_area(tables):
    """Two rows of integers for which a rule of area products does not hold, or None."""
    _check_tables(tables)
    return _break_of(tables)


def _break_of(tables):
    """A break with integers 0 and 1, at most two of them 1 in each row, or None."""
    # Each rule says that a sum of products of at most two entries of x and two of y is 0 throughout. Such a sum is
    # 0 throughout if it is 0 where x and y are units or sums of two units.
    size = len(tables)
    places = [(first, second) for first in range(size) for second in range(first, size)]
    for one in places:
        for other in places:
            x, y = _row_at(one, size), _row_at(other, size)
            if _breaks(x, y, _unit_product(tables, one, other)):
                return x, y
    return None


def _row_at(places, size):
    """The row of integers with 1 at some places and 0 elsewhere."""
    return tuple([int(at in places) for at in range(size)])


def _unit_product(tables, one, other):
    """The product of the rows with 1 at some places; a place that comes twice counts once."""
    rows = [tables[first][second] for first in sorted(set(one)) for second in sorted(set(other))]
    return tuple([sum([row[at] for row in rows], start=Ratio(0)) for at in range(len(tables))])


def _breaks(x, y, product):
    """Whether a product of two rows breaks a rule of area products."""
    if _dot(product, x) or _dot(product, y):
        return True
    shared = _dot(x, y)
    return _dot(product, product) != _dot(x, x) * _dot(y, y) - shared * shared


def _dot(one, other):
    """The sum of the products of the entries of two rows."""
    tops, bottom = over_one_bottom(one)
    more, below = over_one_bottom(other)
    return ratio_of(sum([top * factor for top, factor in zip(tops, more)]), bottom * below)


def is_broken_area(tables, value):
    """Whether the value is a break of the product that is told by tables."""
    _check_tables(tables)
    if not (isinstance(value, tuple) and len(value) == 2):
        return False
    if not all([_is_row(row, len(tables)) for row in value]):
        return False
    # Integers of any length are judged, but only ratios are led whatever their length.
    x, y = [tuple([ratio_of(entry, 1) for entry in row]) for row in value]
    return _breaks(x, y, bundle_row(tables, x, y))


def _is_row(value, size):
    """Whether the value is a tuple of so many integers."""
    return isinstance(value, tuple) and len(value) == size and all([is_integer(entry) for entry in value])


def times_of_area(tables):
    """The multiplication of a number and a row that is told by an area product."""
    _check_tables(tables)
    if _break_of(tables) is not None:
        raise InvalidOperation("no area product")
    size = len(tables)
    first = tuple([_unit_row(at, size + 1) for at in range(size + 1)])
    others = [_table_of_unit(tables[at], at) for at in range(size)]
    return Times((1,) * (size + 1), tuple([first] + others))


def _unit_row(at, size):
    """A unit row of ratios."""
    return tuple([Ratio(entry) for entry in unit_entries(size, at)])


def _table_of_unit(table, at):
    """The table by which the unit row at an index, behind a number 0, multiplies."""
    size = len(table)
    ahead = _unit_row(at + 1, size + 1)
    return (ahead,) + tuple([(Ratio(-int(row == at)),) + table[row] for row in range(size)])
