"""Folded tables: rules for 1, 2, 4, 8 and 16 squares, with quotients of sums of products."""

from squaretimes.base.ratios import Ratio, are_ratios, as_ratio
from squaretimes.base.tables import (
    idle_table, is_table, row_led, scaled_table, sum_of_squares, table_product, turned_table,
)
from squaretimes.errors import InvalidOperation, InvalidRatio, Refused

MAX_FOLDED = 16
_SIZES = (1, 2, 4, 8, 16)


def _check_values(values):
    """Refuses every value but a tuple of 1, 2, 4, 8 or 16 ratios and integers."""
    if not (are_ratios(values, 1, MAX_FOLDED) and len(values) in _SIZES):
        raise InvalidRatio("no tuple of 1, 2, 4, 8 or 16 ratios and integers")


def _check_both(one, other):
    """Refuses two values that are not both as told, and then such of unlike lengths."""
    _check_values(one)
    _check_values(other)
    if len(one) != len(other):
        raise InvalidOperation("the lengths are unlike")


def folded_table(values):
    """The folded table of some ratios."""
    _check_values(values)
    return _folded([as_ratio(value) for value in values])


def _folded(ratios):
    """The folded table of a list of ratios."""
    if len(ratios) == 1:
        return (tuple(ratios),)
    half = len(ratios) // 2
    one, other = _folded(ratios[:half]), _folded(ratios[half:])
    norm = sum_of_squares(tuple(ratios[:half]))
    if not norm:
        noughts = (Ratio(0),) * half
        return tuple([noughts + row for row in other] + [row + noughts for row in other])
    product = table_product(table_product(one, turned_table(other)), one)
    behind = scaled_table(product, Ratio(-1).over(norm))
    return tuple([row + more for row, more in zip(one, other)] + [row + more for row, more in zip(behind, one)])


def folded(one, other):
    """The sums of the products of the rows of the folded table of the one tuple with the other one."""
    _check_both(one, other)
    return row_led(other, turned_table(folded_table(one)))


def unfolded(one, other):
    """The tuple from which `folded` makes the other one with the one."""
    _check_both(one, other)
    norm = sum_of_squares(one)
    if not norm:
        raise Refused(("norm",))
    return tuple([entry.over(norm) for entry in row_led(other, folded_table(one))])


def is_folding(values, value):
    """Whether the value is a folding of the values, a table of ratios."""
    _check_values(values)
    size = len(values)
    if not (is_table(value) and len(value) == len(value[0]) == size):
        return False
    if value[0] != tuple([as_ratio(entry) for entry in values]):
        return False
    return table_product(value, turned_table(value)) == scaled_table(idle_table(size), sum_of_squares(values))
