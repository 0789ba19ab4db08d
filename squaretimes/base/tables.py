"""Tables of ratios: sums, products, determinants and their kin."""

from squaretimes.base.integers import check_number
from squaretimes.base.ratios import Ratio, are_ratios, as_ratio, check_ratio, check_ratios, over_one_bottom, ratio_of
from squaretimes.errors import InvalidOperation, InvalidTable

MAX_SIDE = 32


def is_grid(value, most):
    """Whether the value is a tuple of tuples of equally many members, one at least and not more than told of both."""
    if not (isinstance(value, tuple) and 1 <= len(value) <= most):
        return False
    if not all([isinstance(row, tuple) for row in value]):
        return False
    return 1 <= len(value[0]) <= most and all([len(row) == len(value[0]) for row in value])


def is_table(value):
    """Whether the value is a table, with objects of Ratio alone."""
    return is_grid(value, MAX_SIDE) and all([isinstance(entry, Ratio) for row in value for entry in row])


def _check_table(value):
    """Refuses every value that is no table of ratios."""
    if not is_table(value):
        raise InvalidTable("no table of ratios")


def _check_square(table):
    """Refuses every value that is no table, and every table that is not square."""
    _check_table(table)
    if len(table) != len(table[0]):
        raise InvalidOperation("the table is not square")


def table_of(rows):
    """The table with ratios in the place of integers."""
    if not (is_grid(rows, MAX_SIDE) and all([are_ratios(row, 1, MAX_SIDE) for row in rows])):
        raise InvalidTable("no rows of equally many ratios and integers")
    return tuple([tuple([as_ratio(entry) for entry in row]) for row in rows])


def idle_table(size):
    """The square table with 1 on the diagonal and 0 elsewhere."""
    check_number(size, 1, MAX_SIDE)
    return tuple([tuple([Ratio(int(row == column)) for column in range(size)]) for row in range(size)])


def table_sum(one, other):
    """The sum of two tables, entry by entry."""
    _check_table(one)
    _check_table(other)
    if len(one) != len(other) or len(one[0]) != len(other[0]):
        raise InvalidOperation("the tables have unlike sides")
    return tuple([tuple([entry + added for entry, added in zip(row, more)]) for row, more in zip(one, other)])


def _paired(one, other):
    """The sum of the products of two rows, each told by tops over one bottom."""
    tops, bottom = one
    more, below = other
    return ratio_of(sum([top * factor for top, factor in zip(tops, more)]), bottom * below)


def _columns(table):
    """The columns of a table, each told by tops over one bottom."""
    return [over_one_bottom([row[at] for row in table]) for at in range(len(table[0]))]


def table_product(one, other):
    """The product of two tables, rows by columns."""
    _check_table(one)
    _check_table(other)
    if len(one[0]) != len(other):
        raise InvalidOperation("as many columns as rows are needed")
    rows = [over_one_bottom(row) for row in one]
    columns = _columns(other)
    return tuple([tuple([_paired(row, column) for column in columns]) for row in rows])


def turned_table(table):
    """The table whose rows are the columns of this one."""
    _check_table(table)
    return turned_lists(table)


def turned_lists(rows):
    """The columns of rows of any members, as tuples in a tuple."""
    return tuple([tuple([row[at] for row in rows]) for at in range(len(rows[0]))])


def scaled_table(table, ratio):
    """The table with all entries multiplied by a ratio."""
    _check_table(table)
    check_ratio(ratio)
    return tuple([tuple([entry * ratio for entry in row]) for row in table])


def row_led(values, table):
    """The row that a table makes of a row: the sums of its products with the columns."""
    check_ratios(values, 1, MAX_SIDE)
    _check_table(table)
    if len(values) != len(table):
        raise InvalidOperation("as many values as rows are needed")
    led = over_one_bottom(values)
    return tuple([_paired(led, column) for column in _columns(table)])


def table_trace(table):
    """The sum of the diagonal of a square table."""
    _check_square(table)
    return sum([table[at][at] for at in range(len(table))], start=Ratio(0))


def determinant(table):
    """The determinant of a square table."""
    _check_square(table)
    rows = []
    bottom = 1
    for row in table:
        tops, common = over_one_bottom(row)
        rows.append(tops)
        bottom = bottom * common
    return ratio_of(_whole_determinant(rows), bottom)


def _whole_determinant(rows):
    """The determinant of rows of integers, by divisions without a rest."""
    sign = 1
    last = 1
    while len(rows) > 1:
        found = [at for at in range(len(rows)) if rows[at][0] != 0]
        if not found:
            return 0
        # To move the row ahead takes as many exchanges of neighbours as rows stand ahead of it.
        if found[0] % 2 == 1:
            sign = -sign
        pivot = rows[found[0]]
        others = [row for at, row in enumerate(rows) if at != found[0]]
        rows = [_reduced(row, pivot, last) for row in others]
        last = pivot[0]
    return sign * rows[0][0]


def _reduced(row, pivot, last):
    """A row without its first member, less what the pivot row takes away, divided by the last pivot."""
    # Each of these numbers is a determinant of a part of the table times the last pivot: no rest is left.
    return [(entry * pivot[0] - row[0] * led) // last for entry, led in zip(row[1:], pivot[1:])]


def sum_of_squares(values):
    """The sum of the squares of ratios and integers, a ratio."""
    check_ratios(values, 1, MAX_SIDE)
    tops, bottom = over_one_bottom(values)
    return ratio_of(sum([top * top for top in tops]), bottom * bottom)
