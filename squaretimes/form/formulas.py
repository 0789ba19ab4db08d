"""Formulas: tables that make sums of squares of products of sums of squares."""

from squaretimes.base.bundles import bundle_row, is_bundle, least_broken
from squaretimes.base.integers import is_ascending
from squaretimes.base.ratios import Ratio, check_ratios
from squaretimes.errors import InvalidFormula, InvalidOperation, InvalidTable, TooMany

MAX_SIDE = 32


def _check_tables(value):
    """Refuses every value but a tuple of 1 to 32 tables with equally many rows and columns."""
    if not is_bundle(value, MAX_SIDE):
        raise InvalidTable("no tuple of tables with equally many rows and columns")


def check_formula(value):
    """Refuses every value that is no formula."""
    if not isinstance(value, Formula):
        raise InvalidFormula("no formula")


def check_choice(value, many):
    """Refuses every value but an ascending tuple of at least one index."""
    if not (is_ascending(value, many) and value):
        raise InvalidOperation("no ascending tuple of indices")


def _least_pair(tables):
    """The least pair whose rule the tables do not keep, or None."""
    rows, columns = len(tables[0]), len(tables[0][0])
    return least_broken(tables, [1] * columns, [1] * rows, [1] * len(tables))


def broken(tables):
    """The least pair whose rule the tables do not keep, or None if they make a formula."""
    _check_tables(tables)
    return _least_pair(tables)


def is_formula(value):
    """Whether the value is a tuple of tables that makes a formula."""
    return is_bundle(value, MAX_SIDE) and _least_pair(value) is None


class Formula:
    """A formula, told by its tables. It never changes."""

    def __init__(self, tables):
        _check_tables(tables)
        if _least_pair(tables) is not None:
            raise InvalidFormula("the tables make no formula")
        self._tables = tables

    @property
    def sizes(self):
        """The triple (r, s, n) of the numbers of the tables, of their rows and of their columns."""
        return len(self._tables), len(self._tables[0]), len(self._tables[0][0])

    @property
    def tables(self):
        """The tables, a tuple."""
        return self._tables

    @property
    def is_whole(self):
        """Whether all entries are integers."""
        return all([entry.bottom == 1 for table in self._tables for row in table for entry in row])

    def __call__(self, x, y):
        """The value, a row of n ratios."""
        many, rows, _ = self.sizes
        check_ratios(x, many, many)
        check_ratios(y, rows, rows)
        return bundle_row(self._tables, x, y)

    def cut(self, firsts, seconds):
        """The formula of the x and the y with some indices alone."""
        many, rows, _ = self.sizes
        check_choice(firsts, many)
        check_choice(seconds, rows)
        return known_formula([[self._tables[first][second] for second in seconds] for first in firsts])

    def exchanged(self):
        """The formula with the same values, x and y exchanged."""
        return known_formula([[table[at] for table in self._tables] for at in range(len(self._tables[0]))])

    def beside(self, other):
        """The formula whose value at x, and at the row of y and z, is the row of both values."""
        check_formula(other)
        many, _, columns = self.sizes
        others, _, more_columns = other.sizes
        if many != others:
            raise InvalidOperation("the first sizes are unlike")
        _check_columns(columns + more_columns)
        ahead, behind = _noughts(columns), _noughts(more_columns)
        return known_formula([
            [row + behind for row in table] + [ahead + row for row in later]
            for table, later in zip(self._tables, other._tables)
        ])

    def above(self, other):
        """The formula whose value at the row of x and z, and at y, is the row of both values."""
        check_formula(other)
        _, rows, columns = self.sizes
        _, more_rows, more_columns = other.sizes
        if rows != more_rows:
            raise InvalidOperation("the second sizes are unlike")
        _check_columns(columns + more_columns)
        ahead, behind = _noughts(columns), _noughts(more_columns)
        firsts = [[row + behind for row in table] for table in self._tables]
        return known_formula(firsts + [[ahead + row for row in table] for table in other._tables])

    def __eq__(self, other):
        return isinstance(other, Formula) and self._tables == other._tables

    def __str__(self):
        return f"formula of sizes {self.sizes}"


def _check_columns(columns):
    """Refuses new sizes that are too great: none of a formula is greater than the number of the columns."""
    if columns > MAX_SIDE:
        raise TooMany(MAX_SIDE)


def _noughts(many):
    """A row of so many zeros."""
    return (Ratio(0),) * many


def known_formula(tables):
    """The formula of tables, lists of rows, that are known to make one."""
    # The class tests all rules of its tables, which takes long for great ones.
    made = Formula((((Ratio(1),),),))
    made._tables = tuple([tuple(table) for table in tables])
    return made
