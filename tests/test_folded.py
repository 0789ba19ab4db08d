"""[9.1] to [9.5]: folded tables."""

import random
import unittest
from fractions import Fraction

from squaretimes.base.ratios import Ratio
from squaretimes.base.tables import idle_table, scaled_table, table_of, table_product, turned_table
from squaretimes.errors import InvalidOperation, InvalidRatio, Refused
from squaretimes.fold import folded as module
from squaretimes.fold.folded import MAX_FOLDED, folded, folded_table, is_folding, unfolded
from tests.helper import (
    GREAT, NO_RATIOS, TOO_GREAT, Case, exact_turn, fraction, fractions, plain, plain_product, plain_turned, small_row,
)

SIZES = (1, 2, 4, 8, 16)
WRONG = tuple([value for value in NO_RATIOS if value != (1,)]) + (
    (), (1, 2, 3), (1,) * 5, (1,) * 6, (1,) * 7, (1,) * 9, (1,) * 15, (1,) * 17, (1,) * 32, [1, 2], (1, True), (False, 1),
    (1, None), (1, "2"), ((1, 2),), (1, TOO_GREAT), (-TOO_GREAT,), {0: 1}, (1, (2,)), (1, 2.0), Ratio(1), [1],
)


def plain_folded(x):
    """The rows of T(x) with fractions, straight from [9.1]."""
    if len(x) == 1:
        return [list(x)]
    half = len(x) // 2
    one, other = plain_folded(x[:half]), plain_folded(x[half:])
    norm = sum([entry * entry for entry in x[:half]])
    if norm == 0:
        return [[Fraction(0)] * half + row for row in other] + [row + [Fraction(0)] * half for row in other]
    product = plain_product(plain_product(one, plain_turned(other)), one)
    behind = [[-entry / norm for entry in row] for row in product]
    return [row + more for row, more in zip(one, other)] + [row + more for row, more in zip(behind, one)]


def norm(row):
    return sum([entry * entry for entry in fractions(row)])


def some_rows():
    """Rows of each size, also with first halves of zeros at each step, and of zeros alone."""
    chance = random.Random(111)
    found = []
    for size in SIZES:
        found = found + [small_row(chance, size) for _ in range(6)]
        found = found + [(0,) * size, (Ratio(0),) * (size - 1) + (3,), (Ratio(-2, 3),) + (0,) * (size - 1)]
        for half in SIZES:
            if 2 * half <= size:
                for start in range(0, size, 2 * half):
                    row = list(small_row(chance, size))
                    row[start:start + half] = [0] * half
                    found.append(tuple(row))
                    found.append((0,) * (start + half) + small_row(chance, size - start - half))
    return found


class Folded(Case, unittest.TestCase):
    def test_max_folded(self):
        self.assert_same(MAX_FOLDED, 16)

    def test_tables(self):
        for x in some_rows():
            table = folded_table(x)
            self.assertEqual({type(table)} | set(map(type, table)), {tuple})
            self.assertEqual({type(entry) for row in table for entry in row}, {Ratio})
            self.assertEqual(plain(table), plain_folded(fractions(x)))

    def test_what_holds_for_tables(self):
        for x in some_rows():
            table = folded_table(x)
            self.assertEqual(fractions(table[0]), fractions(x))
            wanted = [[norm(x) * int(at == place) for at in range(len(x))] for place in range(len(x))]
            self.assertEqual(plain_product(plain(table), plain_turned(plain(table))), wanted)
            self.assertEqual(plain_product(plain_turned(plain(table)), plain(table)), wanted)
            for factor in (-1, 3, Ratio(-2, 7), 0):
                scaled = tuple([Ratio(1) * factor * entry for entry in x])
                self.assert_same(folded_table(scaled), scaled_table(table, factor))

    def test_folded_and_unfolded(self):
        chance = random.Random(112)
        for x in some_rows():
            y = small_row(chance, len(x))
            z = folded(x, y)
            self.assertEqual({type(z)} | set(map(type, z)), {tuple, Ratio})
            wanted = [sum([a * b for a, b in zip(row, fractions(y))]) for row in plain(folded_table(x))]
            self.assertEqual(fractions(z), wanted)
            self.assertEqual(norm(z), norm(x) * norm(y))
            self.assertEqual(fraction(z[0]), sum([a * b for a, b in zip(fractions(x), fractions(y))]))
            if norm(x):
                back = unfolded(x, z)
                self.assertEqual({type(back)} | set(map(type, back)), {tuple, Ratio})
                self.assertEqual(fractions(back), fractions(y))
                self.assertEqual(fractions(folded(x, unfolded(x, y))), fractions(y))
            else:
                self.assert_kept(Refused, "reason", ("norm",), unfolded, x, z)
                self.assertEqual(fractions(z), [0] * len(x))

    def test_great_integers(self):
        long = Ratio(GREAT) * GREAT
        for size in (1, 2, 4, 8):
            x, y = (long, GREAT, Ratio(1, GREAT), -1, 0, long, 1, 2)[:size], (GREAT, long, 1, -GREAT, 1, 1, 0, long)[:size]
            self.assertEqual(norm(folded(x, y)), norm(x) * norm(y))
            self.assertEqual(fractions(unfolded(x, folded(x, y))), fractions(y))

    def test_errors(self):
        for value in WRONG:
            self.assert_error(InvalidRatio, folded_table, value)
            self.assert_error(InvalidRatio, is_folding, value, None)
            for call in (folded, unfolded):
                self.assert_error(InvalidRatio, call, value, (1, 2))
                self.assert_error(InvalidRatio, call, (1, 2), value)
                self.assert_error(InvalidRatio, call, (0, 0), value)
                self.assert_error(InvalidRatio, call, value, value)

    def test_the_sequence_of_the_errors(self):
        for one in SIZES:
            for other in SIZES:
                if one != other:
                    for call in (folded, unfolded):
                        self.assert_error(InvalidOperation, call, (1,) * one, (1,) * other)
                        self.assert_error(InvalidOperation, call, (0,) * one, (0,) * other)
            self.assert_kept(Refused, "reason", ("norm",), unfolded, (0,) * one, (1,) * one)
            self.assert_same(folded((0,) * one, (1,) * one), (Ratio(0),) * one)


def plain_is_folding(x, table):
    rows = plain(table)
    wanted = [[norm(x) * int(at == place) for at in range(len(x))] for place in range(len(x))]
    return rows[0] == fractions(x) and plain_product(rows, plain_turned(rows)) == wanted


class Judged(Case, unittest.TestCase):
    def test_foldings(self):
        chance = random.Random(113)
        for x in some_rows():
            table = folded_table(x)
            size = len(x)
            self.assert_same(is_folding(x, table), True)
            if size > 1:
                behind = list(table[1:])
                chance.shuffle(behind)
                self.assert_same(is_folding(x, table[:1] + tuple(behind)), True)
                turned = [tuple([-entry for entry in row]) if chance.randrange(2) else row for row in behind]
                self.assert_same(is_folding(x, table[:1] + tuple(turned)), True)
                mixed = table_product(exact_turn(chance, size - 1), table[1:])
                self.assert_same(is_folding(x, table[:1] + mixed), True)

    def test_tables_near_foldings(self):
        chance = random.Random(114)
        for x in some_rows():
            table, size = folded_table(x), len(x)
            changed = [list(row) for row in table]
            row, column = chance.randrange(size), chance.randrange(size)
            changed[row][column] = changed[row][column] + 1
            doubled = [tuple([entry * 2 for entry in line]) if at == size - 1 else line for at, line in enumerate(table)]
            nearby = (
                tuple([tuple(line) for line in changed]), tuple(doubled), table[1:] + table[:1], turned_table(table),
                scaled_table(table, 2), scaled_table(table, -1), (table[0],) * size,
            )
            for value in nearby:
                self.assert_same(is_folding(x, value), plain_is_folding(x, value))

    def test_other_values(self):
        table = folded_table((1, 2))
        wrong = NO_RATIOS + (
            ((1, 2), (-2, 1)), ((Ratio(1), 2), table[1]), [table[0], table[1]], (table[0], list(table[1])), table[:1],
            table + (table[1],), folded_table((1, 2, 0, 0)), ((Ratio(1),),), (table,), {0: table}, Ratio(1), (table[0], None),
            ((Ratio(1), Ratio(2), Ratio(0)), (Ratio(-2), Ratio(1), Ratio(0))), ((True, Ratio(2)), table[1]), table[0],
            ((Ratio(1), Ratio(2)), (Ratio(-2), True)), (table[1], table[0]), ((10 ** 5000,),),
        )
        for value in wrong:
            self.assert_same(is_folding((1, 2), value), False)
        self.assert_same([is_folding((1, 2), table), is_folding((Ratio(1), Ratio(2)), table)], [True, True])
        nought = ((Ratio(0),) * 2,) * 2
        self.assert_same([is_folding((0, 0), nought), is_folding((0, 0), table), is_folding((0, 0), idle_table(2))],
                         [True, False, False])


class NotTrue(Case, unittest.TestCase):
    def test_the_sequence_counts(self):
        self.assertNotEqual(fractions(folded((1, 2), (3, 4))), fractions(folded((3, 4), (1, 2))))

    def test_sums_of_the_first_argument(self):
        x, u, y = (1, 1, 1, 0), (0, 1, 0, 2), (1, 2, 3, 4)
        total = tuple([a + b for a, b in zip(x, u)])
        added = [a + b for a, b in zip(fractions(folded(x, y)), fractions(folded(u, y)))]
        self.assertNotEqual(fractions(folded(total, y)), added)

    def test_a_folding_that_is_not_folded(self):
        other = table_of(((1, 2), (2, -1)))
        self.assert_same([is_folding((1, 2), other), other == folded_table((1, 2))], [True, False])

    def test_entries_of_four(self):
        table = folded_table((1, 2, 3, 5))
        self.assertFalse({abs(entry) for row in plain(table) for entry in row} <= {1, 2, 3, 5})

    def test_example(self):
        self.assertEqual(
            ([[str(one) for one in row] for row in folded_table((1, 2))], [str(one) for one in folded((1, 2), (3, 4))],
             [str(one) for one in unfolded((1, 2), (11, -2))]),
            ([["1", "2"], ["-2", "1"]], ["11", "-2"], ["3", "4"]))
        self.assertEqual(
            [[str(one) for one in row] for row in folded_table((1, 1, 1, 0))],
            [["1", "1", "1", "0"], ["-1", "1", "0", "1"], ["0", "-1", "1", "1"], ["1", "0", "-1", "1"]])
        self.assertEqual(
            ([[str(one) for one in row] for row in folded_table((0, 0, 1, 2))],
             folded_table((0, 3)) == ((Ratio(0), Ratio(3)), (Ratio(3), Ratio(0)))),
            ([["0", "0", "1", "2"], ["0", "0", "-2", "1"], ["1", "2", "0", "0"], ["-2", "1", "0", "0"]], True))
        self.assertEqual(
            [is_folding((1, 2), folded_table((1, 2))),
             is_folding((1, 2), ((Ratio(1), Ratio(2)), (Ratio(2), Ratio(-1)))),
             is_folding((1, 2), folded_table((2, 1)))],
            [True, True, False])
        self.assert_error(InvalidRatio, folded, (1, 2, 3), (1, 2, 3))
        self.assert_kept(Refused, "reason", ("norm",), unfolded, (0, 0), (0, 0))

    def test_all_is_defined_in_the_file(self):
        for one in (folded_table, folded, unfolded, is_folding):
            self.assertEqual(one.__module__, module.__name__)


if __name__ == "__main__":
    unittest.main()
