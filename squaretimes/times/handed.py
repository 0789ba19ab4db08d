"""Multiplications that are handed in: weights, and tables that multiply rows."""

from math import gcd

from squaretimes.base.bundles import bundle_row, is_square_bundle, least_broken
from squaretimes.base.integers import is_integer
from squaretimes.base.ratios import Ratio, check_ratios, over_one_bottom, ratio_of
from squaretimes.base.tables import idle_table, is_table, row_led, scaled_table, table_product, table_sum, turned_table
from squaretimes.double.doubled import Doubled, check_algebra
from squaretimes.double.products import product_of, unit_entries, unit_norms
from squaretimes.errors import InvalidTimes, Refused, TooMany
from squaretimes.times.likeness import likeness_of

MAX_TIMES = 8
MAX_WEIGHT = 30


def _are_weights(value):
    """Whether the value is a tuple of 1 to 8 integers other than 0 that are not too great."""
    if not (isinstance(value, tuple) and 1 <= len(value) <= MAX_TIMES):
        return False
    return all([is_integer(weight) and 0 < abs(weight) <= MAX_WEIGHT for weight in value])


class Times:
    """A multiplication, told by its weights and tables. It never changes."""

    def __init__(self, weights, tables):
        if not (_are_weights(weights) and is_square_bundle(tables, MAX_TIMES) and len(weights) == len(tables)):
            raise InvalidTimes("no weights and tables of a multiplication")
        self._weights = weights
        self._tables = tables

    @property
    def weights(self):
        """The weights, a tuple."""
        return self._weights

    @property
    def tables(self):
        """The tables, a tuple."""
        return self._tables

    @property
    def dimension(self):
        """The number of the weights."""
        return len(self._weights)

    @property
    def is_composing(self):
        """Whether the weighed square of each product is the product of the weighed squares."""
        return self.broken_rule() is None

    def __call__(self, x, y):
        """The product of two rows."""
        self._check_row(x)
        self._check_row(y)
        return bundle_row(self._tables, x, y)

    def weighed(self, x):
        """The weighed square of a row."""
        self._check_row(x)
        tops, bottom = over_one_bottom(x)
        return ratio_of(sum([weight * top * top for weight, top in zip(self._weights, tops)]), bottom * bottom)

    def one(self):
        """The one, or None if there is none."""
        size = len(self._weights)
        rows = []
        for row in range(size):
            for column in range(size):
                side = Ratio(int(row == column))
                # The entry that the one, from the left side or from the right, gives the product with a unit row.
                rows.append([table[row][column] for table in self._tables] + [side])
                rows.append([self._tables[row][at][column] for at in range(size)] + [side])
        return _only_solution(rows)

    def broken_rule(self):
        """The least pair whose rule the tables do not keep, or None."""
        return least_broken(self._tables, self._weights, self._weights, self._weights)

    def _check_row(self, value):
        """Refuses every value but as many ratios and integers as there are weights."""
        check_ratios(value, len(self._weights), len(self._weights))

    def __eq__(self, other):
        return isinstance(other, Times) and self._weights == other._weights and self._tables == other._tables

    def __str__(self):
        words = " ".join([str(weight) for weight in self._weights])
        return f"times of {len(self._weights)} with weights {words}"


def _only_solution(rows):
    """The numbers whose products with the entries ahead add up to the last one in each row, or None."""
    left = [over_one_bottom(row)[0] for row in rows]
    many = len(rows[0]) - 1
    leaders = []
    for at in range(many):
        found = [row for row in left if row[at]]
        # There is at most one solution: with too few rows for one, the rows contradict each other.
        if not found:
            return None
        left = [_cleared(row, found[0], at) for row in left]
        leaders = [_cleared(row, found[0], at) for row in leaders] + [found[0]]
    if any([row[many] for row in left]):
        return None
    return tuple([ratio_of(leader[many], leader[place]) for place, leader in enumerate(leaders)])


def _cleared(row, leader, at):
    """A multiple of a row of integers, less one of the leader, with 0 at an index and without a common divisor."""
    if not row[at]:
        return row
    mixed = [entry * leader[at] - more * row[at] for entry, more in zip(row, leader)]
    shared = 0
    for entry in mixed:
        shared = gcd(shared, entry)
    return [entry // shared for entry in mixed] if shared else mixed


def check_times(value):
    """Refuses every value that is no multiplication."""
    if not isinstance(value, Times):
        raise InvalidTimes("no multiplication")


def _check_composing(times):
    """Refuses a multiplication that breaks a rule, and tells the rule."""
    pair = times.broken_rule()
    if pair is not None:
        raise Refused(("rule",) + pair)


def times_of_algebra(algebra):
    """The multiplication of the entries of the elements of an algebra."""
    check_algebra(algebra)
    size = algebra.dimension
    if size > MAX_TIMES:
        raise TooMany(MAX_TIMES)
    norms = unit_norms(algebra.squares)
    if max([abs(norm) for norm in norms]) > MAX_WEIGHT:
        raise TooMany(MAX_WEIGHT)
    units = [unit_entries(size, at) for at in range(size)]
    return Times(norms, tuple([_multiplier(algebra.squares, unit, units) for unit in units]))


def _multiplier(squares, unit, units):
    """The table whose rows are the products of a unit and each unit."""
    return tuple([tuple([Ratio(entry) for entry in product_of(squares, unit, other)]) for other in units])


def with_one(times, values):
    """The multiplication that takes two rows to the product of what their products with the values come from."""
    check_times(times)
    check_ratios(values, times.dimension, times.dimension)
    _check_composing(times)
    norm = times.weighed(values)
    if norm != 1 and norm != -1:
        raise Refused(("square",))
    from_right = tuple([row_led(values, table) for table in times.tables])
    back_right = _taken_back(times.weights, from_right, norm)
    back_left = _taken_back(times.weights, _mixed(values, times.tables), norm)
    tables = [table_product(back_left, _mixed(row, times.tables)) for row in back_right]
    return Times(times.weights, tuple(tables))


def _mixed(values, tables):
    """The sum of tables, each multiplied by its value."""
    total = scaled_table(tables[0], values[0])
    for table, value in zip(tables[1:], values[1:]):
        total = table_sum(total, scaled_table(table, value))
    return total


def _taken_back(weights, table, norm):
    """The table that leads back, if the table multiplies weighed squares by the norm, which is 1 or -1."""
    turned = turned_table(table)
    return tuple([
        tuple([(entry * norm * above).over(below) for entry, below in zip(row, weights)])
        for row, above in zip(turned, weights)
    ])


def recognised(times):
    """A likeness: a doubled algebra, and a table that takes its elements to rows."""
    check_times(times)
    _check_composing(times)
    one = times.one()
    if one is None:
        raise Refused(("one",))
    squares, images = likeness_of(times.weights, times.tables, one)
    return Doubled(squares), images


def is_recognised(times, value):
    """Whether the value is a likeness of the multiplication."""
    check_times(times)
    if not (isinstance(value, tuple) and len(value) == 2):
        return False
    algebra, images = value
    size = times.dimension
    if not (isinstance(algebra, Doubled) and algebra.dimension == size and is_table(images)):
        return False
    if not (len(images) == len(images[0]) == size):
        return False
    return _keeps_norms(times, algebra, images) and _keeps_products(times, algebra, images)


def _keeps_norms(times, algebra, images):
    """Whether the norm of each element is the weighed square of its row; then the determinant is not 0."""
    norms = unit_norms(algebra.squares)
    # The rows of the units are to have their norms and to stand upright to each other.
    weighted = tuple([tuple([entry * weight for entry, weight in zip(row, times.weights)]) for row in images])
    wanted = [tuple([entry * norm for entry in row]) for row, norm in zip(idle_table(times.dimension), norms)]
    return table_product(weighted, turned_table(images)) == tuple(wanted)


def _keeps_products(times, algebra, images):
    """Whether the product of each two units is taken to the product of their rows."""
    size = times.dimension
    units = [unit_entries(size, at) for at in range(size)]
    for at, unit in enumerate(units):
        # The rows of the products of this unit and each unit, by the algebra and by the multiplication.
        products = table_product(_multiplier(algebra.squares, unit, units), images)
        if products != table_product(images, _mixed(images[at], times.tables)):
            return False
    return True
