"""Sign tables: in each row and each column one entry other than 0, which is 1 or -1."""

from squaretimes.base.integers import check_number, is_integer, read_integer, sign_of
from squaretimes.base.ratios import Ratio
from squaretimes.base.tables import MAX_SIDE
from squaretimes.errors import InvalidOperation, InvalidTable, ParseError, TooMany

MAX_SIZE = 64


def _tell_table(marks):
    """Whether the marks are a tuple that tells a sign table."""
    if not (isinstance(marks, tuple) and 1 <= len(marks) <= MAX_SIZE):
        return False
    if not all([is_integer(mark) for mark in marks]):
        return False
    return sorted([abs(mark) for mark in marks]) == list(range(1, len(marks) + 1))


def _row_of(mark, size):
    """The row of ratios that a mark tells."""
    row = [Ratio(0)] * size
    row[abs(mark) - 1] = Ratio(sign_of(mark))
    return tuple(row)


class SignTable:
    """A sign table, told by its marks. It never changes."""

    def __init__(self, marks):
        if not _tell_table(marks):
            raise InvalidTable("the marks tell no sign table")
        self._marks = marks

    @staticmethod
    def idle(size):
        """The idle table of a size."""
        check_number(size, 1, MAX_SIZE)
        return SignTable(tuple(range(1, size + 1)))

    @staticmethod
    def read(text):
        """The sign table with this `str`."""
        if not isinstance(text, str):
            raise ParseError(0)
        marks = tuple([read_integer(word) for word in text.split(" ")])
        if not _tell_table(marks):
            raise ParseError(0)
        return SignTable(marks)

    @property
    def size(self):
        """The number of the rows."""
        return len(self._marks)

    @property
    def marks(self):
        """The marks, a tuple."""
        return self._marks

    @property
    def trace(self):
        """The sum of the entries of the diagonal."""
        return sum([sign_of(mark) for row, mark in enumerate(self._marks) if abs(mark) == row + 1])

    @property
    def is_idle(self):
        """Whether the entries are 1 on the diagonal and 0 elsewhere."""
        return self._marks == tuple(range(1, len(self._marks) + 1))

    def turned(self):
        """The table whose rows are the columns of this one."""
        marks = [0] * len(self._marks)
        for row, mark in enumerate(self._marks):
            marks[abs(mark) - 1] = (row + 1) * sign_of(mark)
        return SignTable(tuple(marks))

    def table(self):
        """The table of ratios with the same entries."""
        size = len(self._marks)
        if size > MAX_SIDE:
            raise TooMany(MAX_SIDE)
        return tuple([_row_of(mark, size) for mark in self._marks])

    def __mul__(self, other):
        if not isinstance(other, SignTable):
            return NotImplemented
        if len(self._marks) != len(other._marks):
            raise InvalidOperation("the sizes are unlike")
        # Each row has one entry: it takes one row of the other table, with its sign.
        return SignTable(tuple([other._marks[abs(mark) - 1] * sign_of(mark) for mark in self._marks]))

    def __neg__(self):
        return SignTable(tuple([-mark for mark in self._marks]))

    def __eq__(self, other):
        return isinstance(other, SignTable) and self._marks == other._marks

    def __str__(self):
        return " ".join([str(mark) for mark in self._marks])
