"""Designs: the sums of the members of a family, each multiplied by an unknown."""

from squaretimes.base.integers import check_number, sign_of
from squaretimes.base.ratios import Ratio, as_ratio, check_ratios
from squaretimes.base.tables import is_table
from squaretimes.errors import InvalidOperation, InvalidTable, TooMany
from squaretimes.form.radon import check_family

MAX_DESIGN = 32
_LEAST_MENDED = 3


class Design:
    """The design of a family. It never changes."""

    def __init__(self, family):
        check_family(family)
        if family[0].size > MAX_DESIGN:
            raise TooMany(MAX_DESIGN)
        self._family = family
        self._rows = _rows_of(family)

    @property
    def family(self):
        """The family, a tuple of sign tables."""
        return self._family

    @property
    def size(self):
        """The number of the rows."""
        return len(self._rows)

    @property
    def rows(self):
        """The rows, tuples of the numbers of the unknowns with their signs."""
        return self._rows

    def places(self, index):
        """The ascending tuple of the pairs (row, column) at which an unknown stands."""
        check_number(index, 0, len(self._family) - 1)
        return self._places(index)

    def _places(self, index):
        """The places of an unknown that is known to be there."""
        return tuple([(row, abs(mark) - 1) for row, mark in enumerate(self._family[index].marks)])

    def sent(self, values):
        """The table with values in the place of the unknowns."""
        check_ratios(values, len(self._family), len(self._family))
        return self._sent([as_ratio(value) for value in values])

    def _sent(self, ratios):
        """The table with ratios in the place of the unknowns."""
        worth = {0: Ratio(0)}
        for index, ratio in enumerate(ratios):
            worth[index + 1] = ratio
            worth[-(index + 1)] = -ratio
        return tuple([tuple([worth[mark] for mark in row]) for row in self._rows])

    def read_back(self, table):
        """The value of each unknown: the sum of what stands at its places, with its signs, divided by the size."""
        self._check_table(table)
        return tuple([self._mean(self._told(table, index)) for index in range(len(self._family))])

    def _told(self, table, index):
        """What the entries at the places of an unknown tell of its value."""
        return [table[row][column] * sign_of(self._rows[row][column]) for row, column in self._places(index)]

    def _mean(self, ratios):
        """The sum of ratios, divided by the size."""
        return sum(ratios, start=Ratio(0)).over(len(self._rows))

    def is_sent(self, value):
        """Whether the value is the sent table of some values."""
        return self._is_table(value) and self._sent(self.read_back(value)) == value

    def mended(self, table):
        """The sent table that differs from a table at no more than one place, or None."""
        self._check_table(table)
        if len(self._rows) < _LEAST_MENDED:
            raise InvalidOperation("a table could be mended in several ways")
        # Each unknown stands at three places at least, and not more than one of them is wrong.
        sent = self._sent([_twice(self._told(table, index)) for index in range(len(self._family))])
        wrong = [1 for row, line in zip(table, sent) for entry, right in zip(row, line) if entry != right]
        return sent if len(wrong) <= 1 else None

    def _is_table(self, value):
        """Whether the value is a table of ratios of the size."""
        return is_table(value) and len(value) == len(value[0]) == len(self._rows)

    def _check_table(self, value):
        """Refuses every value that is no table of ratios of the size."""
        if not self._is_table(value):
            raise InvalidTable("no table of the size of the design")

    def __len__(self):
        return len(self._family)

    def __eq__(self, other):
        return isinstance(other, Design) and self._rows == other._rows

    def __str__(self):
        return "/".join([" ".join([str(mark) for mark in row]) for row in self._rows])


def _rows_of(family):
    """The rows of integers: at each place the number of the member with an entry there, with the sign of the entry."""
    rows = [[0] * family[0].size for _ in range(family[0].size)]
    for index, member in enumerate(family):
        for row, mark in enumerate(member.marks):
            rows[row][abs(mark) - 1] = (index + 1) * sign_of(mark)
    return tuple([tuple(row) for row in rows])


def _twice(ratios):
    """A ratio that comes twice among the first three, if there is one."""
    first, second, third = ratios[:3]
    return first if first == second or first == third else second
