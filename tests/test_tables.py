"""[1.3]: tables of ratios."""

import random
import unittest
from fractions import Fraction
from itertools import permutations

from squaretimes.base import tables
from squaretimes.base.ratios import Ratio
from squaretimes.base.tables import (
    MAX_SIDE, determinant, idle_table, is_table, row_led, scaled_table, sum_of_squares, table_of, table_product,
    table_sum, table_trace, turned_table,
)
from squaretimes.errors import InvalidOperation, InvalidRatio, InvalidTable
from squaretimes.form.signs import SignTable
from tests.helper import GREAT, NO_INTEGERS, NO_RATIOS, TOO_GREAT, Case

ONE, NOUGHT = Ratio(1), Ratio(0)


def small(chance):
    return Ratio(chance.randrange(-9, 10), chance.randrange(1, 10))


def great(chance):
    return Ratio(chance.randrange(-GREAT, GREAT), chance.randrange(1, GREAT))


def filled(rows, columns, entry=ONE):
    return ((entry,) * columns,) * rows


def sparse(chance):
    return Ratio(chance.choice((0, 0, 0, 1, -2)))


def made(chance, rows, columns, entry=small):
    return tuple([tuple([entry(chance) for _ in range(columns)]) for _ in range(rows)])


def plain(table):
    return [[Fraction(entry.top, entry.bottom) for entry in row] for row in table]


def plain_product(one, other):
    return [[sum([a * b for a, b in zip(row, column)]) for column in zip(*other)] for row in one]


def plain_determinant(rows):
    """The sum over all permutations."""
    total = 0
    for order in permutations(range(len(rows))):
        term = Fraction(1)
        for at, column in enumerate(order):
            term *= rows[at][column]
        inversions = sum([order[i] > order[j] for i in range(len(order)) for j in range(i + 1, len(order))])
        total += -term if inversions % 2 else term
    return total


# Values that are no tables of ratios; those in the first tuple are not passed to `table_of` either.
NO_GRIDS = NO_RATIOS + (
    ONE, (ONE,), ((),), ((), ()), ((ONE,), ()), ((ONE,), (ONE, ONE)), ((ONE, ONE), (ONE,)), [(ONE,)], ([ONE],),
    ((ONE,), [ONE]), filled(33, 1), filled(1, 33), filled(33, 33), filled(0, 1), ((True,),), ((ONE, False),),
    ((None,),), (("1",),), (((ONE,),),), ((ONE, ONE), (ONE, "1")), {0: (ONE,)}, ((TOO_GREAT,),), ((1, -TOO_GREAT),),
    ((1.0,),), (SignTable((1,)),), ((SignTable((1,)),),), ((Fraction(1),),),
)
NO_TABLES = NO_GRIDS + (((1,),), ((ONE, 1), (ONE, ONE)), filled(2, 2, 0), ((ONE,), (1,)))


class Tables(Case, unittest.TestCase):
    def test_max_side(self):
        self.assert_same(MAX_SIDE, 32)

    def test_is_table(self):
        for rows in range(0, 35):
            for columns in range(0, 35):
                told = 1 <= rows <= 32 and 1 <= columns <= 32
                self.assert_same(is_table(filled(rows, columns)), told)
        for value in NO_TABLES:
            self.assert_same(is_table(value), False)

    def test_is_table_with_integers_of_any_length(self):
        self.assert_same(is_table(((Ratio(GREAT) * GREAT,),)), True)
        self.assert_same(is_table(((10 ** 5000,),)), False)

    def test_is_table_of_nested_values(self):
        nest, lists = (), []
        for _ in range(7):
            nest, lists = (nest,), [lists]
        self.assert_same([is_table(nest), is_table(lists), is_table({"a": {"b": ((ONE,),)}})], [False, False, False])

    def test_table_of(self):
        half = Ratio(1, 2)
        self.assert_same(table_of(((1, half), (-3, 0))), ((Ratio(1), half), (Ratio(-3), Ratio(0))))
        self.assert_same(table_of(((GREAT,), (-GREAT,))), ((Ratio(GREAT),), (Ratio(-GREAT),)))
        self.assert_same(table_of(filled(32, 32, 7)), filled(32, 32, Ratio(7)))
        self.assert_same(table_of(((Ratio(GREAT) * GREAT,),)), ((Ratio(GREAT) * GREAT,),))
        chance = random.Random(6)
        table = made(chance, 3, 4)
        self.assert_same(table_of(table), table)

    def test_table_of_refuses(self):
        for value in NO_GRIDS:
            self.assert_error(InvalidTable, table_of, value)

    def test_idle_table(self):
        for size in range(1, 33):
            idle = idle_table(size)
            rows = [tuple([ONE if row == column else NOUGHT for column in range(size)]) for row in range(size)]
            self.assert_same(idle, tuple(rows))
        for value in NO_INTEGERS + (0, -1, 33, 10 ** 99):
            self.assert_number(value, idle_table, value)


class Counted(Case, unittest.TestCase):
    def setUp(self):
        self.chance = random.Random(7)

    def shapes(self):
        for entry in (small, great):
            for _ in range(20):
                yield entry, [self.chance.randrange(1, 6) for _ in range(4)]

    def assert_plain(self, table, wanted):
        self.assertTrue(is_table(table))
        self.assertEqual(plain(table), [list(row) for row in wanted])

    def test_sums(self):
        for entry, (rows, columns, _, _) in self.shapes():
            one, other = made(self.chance, rows, columns, entry), made(self.chance, rows, columns, entry)
            wanted = [[a + b for a, b in zip(row, more)] for row, more in zip(plain(one), plain(other))]
            self.assert_plain(table_sum(one, other), wanted)

    def test_products(self):
        for entry, (rows, middle, columns, _) in self.shapes():
            one, other = made(self.chance, rows, middle, entry), made(self.chance, middle, columns, entry)
            self.assert_plain(table_product(one, other), plain_product(plain(one), plain(other)))

    def test_products_are_grouped_and_go_over_sums(self):
        for entry, (a, b, c, d) in self.shapes():
            one, other, third = [made(self.chance, *sides, entry) for sides in ((a, b), (b, c), (c, d))]
            self.assert_same(
                table_product(table_product(one, other), third), table_product(one, table_product(other, third)))
            more = made(self.chance, b, c, entry)
            self.assert_same(
                table_product(one, table_sum(other, more)),
                table_sum(table_product(one, other), table_product(one, more)))
            self.assert_same(
                table_product(table_sum(other, more), third),
                table_sum(table_product(other, third), table_product(more, third)))

    def test_turned(self):
        self.assert_same(turned_table(table_of(((1, 2, 3), (4, 5, 6)))), table_of(((1, 4), (2, 5), (3, 6))))
        for entry, (rows, middle, columns, _) in self.shapes():
            one, other = made(self.chance, rows, middle, entry), made(self.chance, middle, columns, entry)
            self.assert_plain(turned_table(one), zip(*plain(one)))
            self.assert_same(
                turned_table(table_product(one, other)), table_product(turned_table(other), turned_table(one)))

    def test_scaled(self):
        for entry, (rows, columns, _, _) in self.shapes():
            table, ratio = made(self.chance, rows, columns, entry), entry(self.chance)
            for factor in (ratio, 0, -3, GREAT):
                worth = Fraction(factor.top, factor.bottom) if isinstance(factor, Ratio) else factor
                self.assert_plain(scaled_table(table, factor), [[one * worth for one in row] for row in plain(table)])

    def test_row_led(self):
        for entry, (rows, columns, _, _) in self.shapes():
            values, table = made(self.chance, 1, rows, entry)[0], made(self.chance, rows, columns, entry)
            led = row_led(values, table)
            self.assertIs(type(led), tuple)
            self.assert_plain((led,), plain_product(plain((values,)), plain(table)))
        led = row_led((1, Ratio(1, 2)), table_of(((1, 2, 3), (4, 0, -3))))
        self.assert_same(led, (Ratio(3), Ratio(2), Ratio(3, 2)))
        self.assert_same(row_led((GREAT,) * 32, filled(32, 1)), (Ratio(GREAT) * 32,))

    def test_traces(self):
        for entry, (size, _, _, _) in self.shapes():
            table = made(self.chance, size, size, entry)
            trace = table_trace(table)
            self.assert_plain(((trace,),), [[sum([plain(table)[at][at] for at in range(size)])]])
        self.assert_same(table_trace(idle_table(32)), Ratio(32))

    def test_sums_of_squares(self):
        for entry, (size, _, _, _) in self.shapes():
            values = made(self.chance, 1, size, entry)[0]
            self.assert_plain(((sum_of_squares(values),),), [[sum([one * one for one in plain((values,))[0]])]])
        self.assert_same(sum_of_squares((3, Ratio(1, 2))), Ratio(37, 4))
        self.assert_same(sum_of_squares((-GREAT,) * 32), Ratio(GREAT) * GREAT * 32)
        self.assert_same(sum_of_squares((0,)), Ratio(0))

    def test_arguments_are_not_changed(self):
        one, other = made(self.chance, 3, 3), made(self.chance, 3, 3)
        before = [[str(entry) for entry in row] for row in one + other]
        table_sum(one, other), table_product(one, other), turned_table(one), scaled_table(one, 5), determinant(one)
        row_led(one[0], other), table_trace(one), sum_of_squares(one[0])
        self.assertEqual([[str(entry) for entry in row] for row in one + other], before)


class Determinants(Case, unittest.TestCase):
    def setUp(self):
        self.chance = random.Random(8)

    def test_by_permutations(self):
        for size in range(1, 6):
            for entry in (small, great):
                for _ in range(10):
                    table = made(self.chance, size, size, entry)
                    told = determinant(table)
                    self.assertIs(type(told), Ratio)
                    self.assertEqual(Fraction(told.top, told.bottom), plain_determinant(plain(table)))

    def test_with_many_zeros(self):
        for size in range(2, 6):
            for _ in range(100):
                table = made(self.chance, size, size, sparse)
                told = determinant(table)
                self.assertEqual(Fraction(told.top, told.bottom), plain_determinant(plain(table)))

    def test_rows_in_another_sequence(self):
        for size in range(1, 5):
            for order in permutations(range(size)):
                table = tuple([idle_table(size)[at] for at in order])
                told = determinant(table)
                self.assertEqual(told.top, plain_determinant(plain(table)))

    def test_of_products_and_turned_tables(self):
        for size, entry in ((2, great), (5, great), (7, small), (12, small)):
            one, other = made(self.chance, size, size, entry), made(self.chance, size, size, entry)
            self.assert_same(determinant(table_product(one, other)), determinant(one) * determinant(other))
            self.assert_same(determinant(turned_table(one)), determinant(one))

    def test_of_rows_that_depend_on_one_another(self):
        for entry in (small, great):
            rows = made(self.chance, 4, 5, entry)
            led = row_led((2, Ratio(-1, 3), 0, 5), rows)
            for at in range(5):
                self.assert_same(determinant(rows[:at] + (led,) + rows[at:]), Ratio(0))
        self.assert_same(determinant(filled(3, 3)), Ratio(0))
        self.assert_same(determinant(filled(32, 32, NOUGHT)), Ratio(0))
        self.assert_same(determinant(((NOUGHT,),)), Ratio(0))

    def test_of_great_sides(self):
        self.assert_same(determinant(idle_table(32)), Ratio(1))
        self.assert_same(determinant(scaled_table(idle_table(32), Ratio(1, 2))), Ratio(1, 2 ** 32))
        self.assert_same(determinant(scaled_table(idle_table(3), GREAT)), Ratio(GREAT) * GREAT * GREAT)
        table = made(self.chance, 32, 32)
        rows = list(table)
        rows[3], rows[30] = rows[30], rows[3]
        self.assert_same(determinant(tuple(rows)), -determinant(table))


class Refusals(Case, unittest.TestCase):
    TWO, WIDE = idle_table(2), filled(2, 3)

    def test_tables(self):
        two = self.TWO
        for value in NO_TABLES:
            for call in (turned_table, table_trace, determinant):
                self.assert_error(InvalidTable, call, value)
            for call in (table_sum, table_product):
                self.assert_error(InvalidTable, call, value, two)
                self.assert_error(InvalidTable, call, two, value)
                self.assert_error(InvalidTable, call, value, value)
                self.assert_error(InvalidTable, call, filled(3, 3), value)
            self.assert_error(InvalidTable, scaled_table, value, 1)
            self.assert_error(InvalidTable, scaled_table, value, None)
            self.assert_error(InvalidTable, row_led, (1, 2), value)
            self.assert_error(InvalidTable, row_led, (1,) * 32, value)

    def test_ratios(self):
        for value in NO_RATIOS:
            self.assert_error(InvalidRatio, scaled_table, self.TWO, value)
            self.assert_error(InvalidRatio, sum_of_squares, (value,))
            self.assert_error(InvalidRatio, sum_of_squares, (1, value))
            self.assert_error(InvalidRatio, row_led, (1, value), self.TWO)
            self.assert_error(InvalidRatio, row_led, (value, 1), None)

    def test_values(self):
        wrong = ((), (1,) * 33, [1, 2], None, 1, ONE, "12", {1: 2}, {}, True, ((1, 2),), ((ONE,),))
        for values in wrong:
            self.assert_error(InvalidRatio, sum_of_squares, values)
            self.assert_error(InvalidRatio, row_led, values, self.TWO)
            self.assert_error(InvalidRatio, row_led, values, None)
            self.assert_error(InvalidRatio, row_led, values, ((1,),))

    def test_unlike_sides(self):
        two, three, wide = self.TWO, idle_table(3), self.WIDE
        for one, other in ((two, wide), (wide, two), (wide, three), (two, three), (wide, filled(1, 3))):
            self.assert_error(InvalidOperation, table_sum, one, other)
        for one, other in ((wide, two), (wide, wide), (two, three), (two, idle_table(1)), (three, two)):
            self.assert_error(InvalidOperation, table_product, one, other)
        for values in ((1,), (1, 2, 3), (1,) * 32):
            self.assert_error(InvalidOperation, row_led, values, self.TWO)
        self.assert_error(InvalidOperation, row_led, (1, 2, 3), self.WIDE)

    def test_tables_that_are_not_square(self):
        for table in (self.WIDE, turned_table(self.WIDE), filled(1, 32), filled(32, 1), filled(32, 31)):
            self.assert_error(InvalidOperation, table_trace, table)
            self.assert_error(InvalidOperation, determinant, table)


class Listed(Case, unittest.TestCase):
    def test_each_function_is_defined_there(self):
        for call in (
            is_table, table_of, idle_table, table_sum, table_product, turned_table, scaled_table, row_led, table_trace,
            determinant, sum_of_squares,
        ):
            self.assertEqual(call.__module__, tables.__name__)

    def test_example(self):
        one, other = table_of(((1, 2), (0, Ratio(1, 2)))), table_of(((0, 1), (-1, 0)))
        self.assertEqual(
            ([[str(entry) for entry in row] for row in table_product(one, other)],
             table_product(other, other) == scaled_table(idle_table(2), -1), str(determinant(one))),
            ([["-2", "1"], ["-1/2", "0"]], True, "1/2"))
        self.assertEqual(
            ([str(entry) for entry in row_led((3, 4), one)], str(sum_of_squares((3, Ratio(1, 2)))),
             turned_table(turned_table(one)) == one, str(table_trace(one))),
            (["3", "8"], "37/4", True, "3/2"))
        self.assert_error(InvalidOperation, table_product, one, idle_table(3))


if __name__ == "__main__":
    unittest.main()
