"""What the tests share."""

from fractions import Fraction

from squaretimes.base.ratios import Ratio
from squaretimes.base.tables import idle_table, table_of, table_product
from squaretimes.errors import InvalidNumber
from squaretimes.form.signs import SignTable

GREAT = 10 ** 60 - 1
TOO_GREAT = 10 ** 60

# Values that are no integers, of many kinds.
NO_INTEGERS = (
    None, True, False, "", "1", "a\tb\n", (), (1,), (1, (2, "x")), [], [1], {}, {"a": 1}, {1: [2]},
    Ratio(1), Ratio(1, 2), SignTable((1,)),
)
# Values that are never passed as integers, and such that are never passed as ratios.
NO_PASSED_INTEGERS = NO_INTEGERS + (TOO_GREAT, -TOO_GREAT, 10 ** 99)
NO_RATIOS = tuple([value for value in NO_PASSED_INTEGERS if not isinstance(value, Ratio)])


def same(one, other):
    """Whether two values are equal and of the same kinds throughout: True is not 1."""
    if isinstance(one, (tuple, list)):
        return type(one) is type(other) and len(one) == len(other) and all(map(same, one, other))
    return type(one) is type(other) and one == other


def fraction(value):
    """The fraction of Python's own that is worth as much as a ratio or an integer."""
    return Fraction(value.top, value.bottom) if isinstance(value, Ratio) else Fraction(value)


def fractions(row):
    return [fraction(entry) for entry in row]


def plain(table):
    """A table as lists of fractions."""
    return [fractions(row) for row in table]


def plain_product(one, other):
    return [[sum([a * b for a, b in zip(row, column)]) for column in zip(*other)] for row in one]


def plain_turned(table):
    return [list(column) for column in zip(*table)]


def small(chance):
    """A small ratio or, at times, an integer."""
    return chance.choice((0, 1, -2, Ratio(chance.randrange(-9, 10), chance.randrange(1, 10))))


def small_row(chance, size):
    return tuple([small(chance) for _ in range(size)])


def exact_turn(chance, size, steps=3):
    """A table that is idle if it is multiplied by its turned one, made of turns like 3 / 5 and 4 / 5, and of signs."""
    table = idle_table(size)
    for _ in range(steps):
        rows = [[int(row == column) for column in range(size)] for row in range(size)]
        one, other = chance.randrange(size), chance.randrange(size)
        a, b, c = chance.choice(((3, 4, 5), (5, 12, 13), (0, 1, 1), (-8, 15, 17), (7, -24, 25)))
        if one == other:
            rows[one][one] = -1
        else:
            rows[one][one], rows[one][other] = Ratio(a, c), Ratio(b, c)
            rows[other][one], rows[other][other] = Ratio(-b, c), Ratio(a, c)
        table = table_product(table, table_of(tuple([tuple(row) for row in rows])))
    return table


def word_sign(x, y, many):
    """The sign of two words of some letters: so the units of 2, 4 and 8 dimensions multiply, up to their signs."""
    a, b = [[(word >> at) & 1 for at in range(many)] for word in (x, y)]
    total = 0
    for i in range(many):
        for j in range(i, many):
            total += a[i] * b[j]
            for k in range(j + 1, many):
                total += (i < j) * (a[i] * a[j] * b[k] + a[i] * b[j] * a[k] + b[i] * a[j] * a[k])
    return -1 if total % 2 else 1


def told_signs(many):
    """The sign tables of a formula of the sizes (n, n, n), for n = 2 ** many, many from 0 to 3."""
    size = 2 ** many
    return [SignTable(tuple([word_sign(x, y, many) * ((x ^ y) + 1) for y in range(size)])) for x in range(size)]


def error_of(call, *given, **named):
    """The error that a call raises, or None."""
    try:
        call(*given, **named)
    except Exception as error:
        return error
    return None


class Case:
    """Assertions about kinds and errors, for test cases."""

    def assert_same(self, one, other):
        self.assertTrue(same(one, other), (one, other))

    def assert_error(self, kind, call, *given, **named):
        error = error_of(call, *given, **named)
        self.assertIs(type(error), kind, (call, given, named, error))
        return error

    def assert_kept(self, kind, name, kept, call, *given, **named):
        error = self.assert_error(kind, call, *given, **named)
        self.assert_same(getattr(error, name), kept)

    def assert_number(self, kept, call, *given, **named):
        self.assert_kept(InvalidNumber, "given", kept, call, *given, **named)
