"""Bundles: tables of one shape that make one row of two rows, and rules about their weighted squares."""

from squaretimes.base.ratios import Ratio, over_one_bottom
from squaretimes.base.tables import is_table, row_led


def is_bundle(value, most):
    """Whether the value is a tuple of tables of one shape, one at least and not more than told."""
    if not (isinstance(value, tuple) and 1 <= len(value) <= most):
        return False
    if not all([is_table(table) for table in value]):
        return False
    rows, columns = len(value[0]), len(value[0][0])
    return all([len(table) == rows and len(table[0]) == columns for table in value])


def is_square_bundle(value, most):
    """Whether the value is a tuple of as many square tables as each of them has rows, not more than told."""
    return is_bundle(value, most) and len(value) == len(value[0]) == len(value[0][0])


def bundle_row(tables, one, other):
    """The sum of the rows that the tables make of the other row, each multiplied by its member of the one row."""
    rows = [row_led(other, table) for table in tables]
    return tuple([_mixed([row[at] for row in rows], one) for at in range(len(rows[0]))])


def _mixed(entries, factors):
    """The sum of the products of ratios and factors."""
    return sum([entry * factor for entry, factor in zip(entries, factors)], start=Ratio(0))


def least_broken(tables, inner, outer, factors):
    """The least pair (i, j) of tables that breaks its rule, or None.

    The squares of each row that a table makes, weighted by `inner`, are to add up to those of the row from which it
    makes it, weighted by `outer`, times the factor of the table. Rows that two tables make of one are to stand
    upright to each other.
    """
    bundle = [[over_one_bottom(row) for row in table] for table in tables]
    for least in range(len(bundle)):
        wanted = [2 * factors[least] * weight for weight in outer]
        if not _keep(bundle[least], bundle[least], inner, wanted):
            return least, least
        for later in range(least + 1, len(bundle)):
            if not _keep(bundle[least], bundle[later], inner, [0] * len(outer)):
                return least, later
    return None


def _keep(one, other, inner, wanted):
    """Whether the product of a table and a turned one, and that of both exchanged, have as their sum what is wanted."""
    weighted = [_weighted(row, inner) for row in one]
    others = weighted if one == other else [_weighted(row, inner) for row in other]
    for at in range(len(one)):
        for below in range(at, len(one)):
            total = wanted[at] if at == below else 0
            if not _add_up(weighted[at], other[below], others[at], one[below], total):
                return False
    return True


def _weighted(row, weights):
    """A row, told by tops over one bottom, with its entries multiplied by weights."""
    tops, bottom = row
    return [top * weight for top, weight in zip(tops, weights)], bottom


def _add_up(one, other, third, fourth, total):
    """Whether the products of two pairs of rows, told by tops over one bottom, add up to an integer."""
    ahead, below = _paired(one, other)
    behind, under = _paired(third, fourth)
    return ahead * under + behind * below == total * below * under


def _paired(one, other):
    """The top and the bottom of the sum of the products of two rows."""
    return sum([top * more for top, more in zip(one[0], other[0])]), one[1] * other[1]
