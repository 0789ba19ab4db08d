"""[8.1] to [8.6]: products of two rows with their area."""

import functools
import random
import unittest
from itertools import product

from squaretimes.base.ratios import Ratio
from squaretimes.base.tables import idle_table, scaled_table, table_of, table_product, turned_table
from squaretimes.double.doubled import Doubled, Element
from squaretimes.errors import InvalidNumber, InvalidOperation, InvalidRatio, InvalidTable
from squaretimes.times import areas
from squaretimes.times.areas import (
    MAX_UNKNOWNS, area, area_tables, broken_area, is_area_product, is_broken_area, row_product, times_of_area,
)
from squaretimes.times.handed import Times
from tests.helper import (
    GREAT, NO_INTEGERS, NO_RATIOS, TOO_GREAT, Case, exact_turn, fraction, fractions, plain, small_row,
)

ONE, NOUGHT = Ratio(1), Ratio(0)
ALGEBRAS = {1: Doubled((-1,)), 3: Doubled((-1, -1)), 7: Doubled((-1, -1, -1))}
IDLE = idle_table(2)


def dot(x, y):
    return sum([fraction(a) * fraction(b) for a, b in zip(x, y)])


def plain_row_product(tables, x, y):
    rows = [plain(table) for table in tables]
    return summed(rows, fractions(x), fractions(y))


def summed(rows, x, y):
    """The sum over all pairs of entries other than 0."""
    size = len(rows)
    total = [0] * size
    for i in [at for at in range(size) if x[at]]:
        for j in [at for at in range(size) if y[at]]:
            factor = x[i] * y[j]
            total = [entry + factor * more for entry, more in zip(total, rows[i][j])]
    return total


def breaks(x, y, z):
    """Whether rows x and y with the product z break one of the rules of [8.1]."""
    return bool(dot(z, x) or dot(z, y) or dot(z, z) != dot(x, x) * dot(y, y) - dot(x, y) ** 2)


def plain_breaks(tables, x, y):
    return breaks(x, y, plain_row_product(tables, x, y))


@functools.cache
def light_rows(size):
    """The rows of integers 0 and 1 with at most two 1: [8.1] tells of terms with two entries of each row at most."""
    return [row for row in product((0, 1), repeat=size) if 0 < sum(row) < 3]


def plain_is_area(tables):
    rows = [plain(table) for table in tables]
    size = len(tables)
    return not any([breaks(x, y, summed(rows, x, y)) for x in light_rows(size) for y in light_rows(size)])


def moved(tables, turn):
    """The product of rows in which each row stands for the one that an exact turn makes of it."""
    size, back = len(tables), turned_table(turn)
    rows = [[tuple([Ratio(entry.numerator) .over(entry.denominator)
                    for entry in plain_row_product(tables, turn[i], turn[j])]) for j in range(size)] for i in range(size)]
    return tuple([table_product(tuple(one), back) for one in rows])


def noughts(size):
    return (scaled_table(idle_table(size), 0),) * size


@functools.cache
def some_areas():
    chance = random.Random(101)
    found = [area_tables(size) for size in (1, 3, 7)]
    for size in (3, 7):
        found.append(moved(area_tables(size), exact_turn(chance, size, 3)))
        found.append(moved(area_tables(size), exact_turn(chance, size, 9)))
        found.append(tuple([scaled_table(table, -1) for table in area_tables(size)]))
        found.append(tuple([turned_table(table) for table in area_tables(size)])[:size])
    return [tables for tables in found if plain_is_area(tables)]


@functools.cache
def some_others():
    """Products of rows that are no area products, of each number of unknowns."""
    chance = random.Random(102)
    found = [noughts(size) for size in range(2, 10)]
    found = found + [(idle_table(size),) * size for size in range(1, 10)]
    for size in range(1, 10):
        found.append(tuple([
            tuple([tuple([Ratio(chance.randint(-1, 1), chance.randint(1, 2)) for _ in range(size)]) for _ in range(size)])
            for _ in range(size)
        ]))
    for tables in some_areas():
        for _ in range(4):
            changed = [[list(row) for row in table] for table in tables]
            i, j, k = [chance.randrange(len(tables)) for _ in range(3)]
            kind = chance.randrange(4)
            if kind == 0:
                changed[i][j][k] = changed[i][j][k] + chance.choice((1, -1, Ratio(1, 10 ** 30)))
            elif kind == 1:
                changed[i][j] = [-entry for entry in changed[i][j]]
            elif kind == 2:
                changed[i], changed[j] = changed[j], changed[i]
            else:
                changed[i] = [[entry * 2 for entry in row] for row in changed[i]]
            found.append(tuple([tuple([tuple(row) for row in table]) for table in changed]))
    # At right angles to both, and of the other sign if they are exchanged: but of another length.
    found.append(tuple([scaled_table(table, 2) for table in area_tables(3)]))
    # Six unknowns: two times three of them.
    ahead, behind = area_tables(3), (NOUGHT,) * 3
    found.append(tuple([tuple([row + behind for row in table] + [behind * 2] * 3) for table in ahead])
                 + tuple([tuple([behind * 2] * 3 + [behind + row for row in table]) for table in ahead]))
    return found


NO_TUPLES = NO_RATIOS + (
    ONE, IDLE, (IDLE,), [IDLE, IDLE], (IDLE, [IDLE]), (IDLE, None), (IDLE,) * 3, (idle_table(3),) * 2, noughts(9) * 2,
    (idle_table(10),) * 10, (((1,),),), (((True,),),), (((ONE,),), ((ONE,),)), (IDLE, ((ONE, NOUGHT),)), (IDLE, idle_table(3)),
    (((ONE, NOUGHT), (NOUGHT, 1)), IDLE), {0: IDLE, 1: IDLE}, ((ONE, ONE),), (IDLE, ((ONE, ONE), [ONE, ONE])), (((ONE,),), None),
)


class Products(Case, unittest.TestCase):
    def test_max_unknowns(self):
        self.assert_same(MAX_UNKNOWNS, 9)

    def test_row_product(self):
        chance = random.Random(103)
        for tables in some_areas() + some_others():
            size = len(tables)
            x, y = small_row(chance, size), small_row(chance, size)
            told = row_product(tables, x, y)
            self.assertEqual({type(told)} | set(map(type, told)), {tuple, Ratio})
            self.assertEqual(fractions(told), plain_row_product(tables, x, y))
        for i, j in product(range(3), repeat=2):
            units = [tuple([int(at == place) for at in range(3)]) for place in (i, j)]
            self.assert_same(row_product(area_tables(3), *units), area_tables(3)[i][j])

    def test_row_product_refuses(self):
        for value in NO_TUPLES:
            self.assert_error(InvalidTable, row_product, value, None, None)
        wrong = NO_RATIOS + ((), (1,), (1, 2, 3), [1, 2], (1, True), (1, None), (1, TOO_GREAT), {0: 1, 1: 2}, IDLE)
        for value in wrong:
            self.assert_error(InvalidRatio, row_product, (IDLE, IDLE), value, (1, 2))
            self.assert_error(InvalidRatio, row_product, (IDLE, IDLE), (1, 2), value)

    def test_told_areas(self):
        chance = random.Random(104)
        for size, algebra in ALGEBRAS.items():
            for _ in range(20):
                x, y = [tuple([chance.randint(-9, 9) for _ in range(size)]) for _ in range(2)]
                wanted = (Element(algebra, (0,) + x) * Element(algebra, (0,) + y)).entries[1:]
                told = area(x, y)
                self.assertEqual({type(told)} | set(map(type, told)), {tuple, Ratio})
                self.assertEqual(fractions(told), list(wanted))
                halves = [tuple([Ratio(entry, 3 - at) for entry in row]) for at, row in enumerate((x, y))]
                self.assertEqual([fraction(entry) * 6 for entry in area(*halves)], list(wanted))
        self.assert_same(area((Ratio(5, 2),), (7,)), (NOUGHT,))
        a, b, c, u, v, w = 2, -3, 5, 7, 11, -13
        self.assertEqual(fractions(area((a, b, c), (u, v, w))), [b * w - c * v, c * u - a * w, a * v - b * u])

    def test_what_holds_for_areas(self):
        chance = random.Random(105)
        for tables in some_areas():
            size = len(tables)
            for _ in range(3):
                x, y, z = [small_row(chance, size) for _ in range(3)]
                told = row_product(tables, x, y)
                self.assertEqual((dot(told, x), dot(told, y)), (0, 0))
                self.assertEqual(dot(told, told), dot(x, x) * dot(y, y) - dot(x, y) ** 2)
                self.assertEqual(fractions(told), [-entry for entry in fractions(row_product(tables, y, x))])
                self.assertEqual(dot(told, z), dot(x, row_product(tables, y, z)))
                twice = fractions(row_product(tables, x, told))
                wanted = [dot(x, y) * a - dot(x, x) * b for a, b in zip(fractions(x), fractions(y))]
                self.assertEqual(twice, wanted)
                if size == 3:
                    outer = fractions(row_product(tables, x, row_product(tables, y, z)))
                    wanted = [dot(x, z) * a - dot(x, y) * b for a, b in zip(fractions(y), fractions(z))]
                    self.assertEqual(outer, wanted)

    def test_great_rows(self):
        long = Ratio(GREAT) * GREAT
        self.assertEqual(fractions(area((long, GREAT, 1), (1, -GREAT, long))),
                         plain_row_product(area_tables(3), (long, GREAT, 1), (1, -GREAT, long)))

    def test_area_refuses(self):
        wrong = NO_RATIOS + (
            (), (1, 2), (1, 2, 3, 4), (1,) * 5, (1,) * 6, (1,) * 8, (1,) * 9, [1, 2, 3], (1, 2, True), (1, 2, None),
            (1, 2, TOO_GREAT), {0: 1}, (1, 2, (3,)), ONE,
        )
        for value in wrong:
            self.assert_error(InvalidRatio, area, value, (1, 2, 3))
            self.assert_error(InvalidRatio, area, (1, 2, 3), value)
            self.assert_error(InvalidRatio, area, value, None)
        for one, other in ((1, 3), (3, 7), (7, 1), (3, 1)):
            self.assert_error(InvalidRatio, area, (1,) * one, (1,) * other)

    def test_area_tables(self):
        for size in (1, 3, 7):
            tables = area_tables(size)
            units = [tuple([int(at == place) for at in range(size)]) for place in range(size)]
            self.assert_same(tables, tuple([tuple([area(one, other) for other in units]) for one in units]))
            self.assertTrue(plain_is_area(tables))
        for value in NO_INTEGERS + (0, -1, 2, 4, 5, 6, 8, 9, 15, 10 ** 99):
            self.assert_number(value, area_tables, value)


class Judged(Case, unittest.TestCase):
    def test_area_products(self):
        told = some_areas()
        self.assertGreaterEqual(len(told), 9)
        for tables in told:
            self.assert_same((is_area_product(tables), broken_area(tables)), (True, None))

    def test_other_products(self):
        seen = set()
        for tables in some_others():
            if len(tables) < 8:
                self.assert_same(is_area_product(tables), plain_is_area(tables))
            if is_area_product(tables):
                continue
            seen.add(len(tables))
            x, y = broken_area(tables)
            self.assert_same([len(x), len(y)], [len(tables)] * 2)
            self.assertTrue(all([type(entry) is int and entry in (0, 1) for entry in x + y]))
            self.assertTrue(plain_breaks(tables, x, y))
            self.assert_same(is_broken_area(tables, (x, y)), True)
        self.assertEqual(seen, set(range(1, 10)))

    def test_one_unknown(self):
        for entry in (0, 1, -1, Ratio(1, 2), GREAT):
            tables = (table_of(((entry,),)),)
            self.assert_same(is_area_product(tables), entry == 0)

    def test_breaks_of_each_rule(self):
        # The first rule alone is broken for a sum of two unit rows, the second one likewise, the third one at once.
        rows = [[[0] * 2 for _ in range(2)] for _ in range(2)]
        wanted = []
        for i, j, k in product(range(2), repeat=3):
            changed = [[list(row) for row in table] for table in rows]
            changed[i][j][k] = 1
            tables = tuple([table_of(tuple([tuple(row) for row in table])) for table in changed])
            wanted.append(plain_breaks(tables, *broken_area(tables)))
        self.assertTrue(all(wanted))

    def test_other_values(self):
        for value in NO_TUPLES:
            self.assert_same(is_area_product(value), False)
            self.assert_error(InvalidTable, broken_area, value)
            self.assert_error(InvalidTable, is_broken_area, value, None)
            self.assert_error(InvalidTable, times_of_area, value)
        self.assert_same(is_area_product((((10 ** 5000,),),)), False)

    def test_breaks(self):
        chance = random.Random(106)
        for tables in some_areas()[:4] + some_others():
            size = len(tables)
            for most in (1, 9, 10 ** 90):
                pair = tuple([tuple([chance.choice((0, chance.randint(-most, most))) for _ in range(size)]) for _ in range(2)])
                self.assert_same(is_broken_area(tables, pair), plain_breaks(tables, *pair))
        self.assert_same(is_broken_area((IDLE, IDLE), ((10 ** 4000, 0), (1, 10 ** 99))), True)

    def test_values_that_are_no_breaks(self):
        wrong = NO_RATIOS + (
            [(1, 0), (1, 0)], ((1, 0),), ((1, 0), (1, 0), (1, 0)), ((1, 0), [1, 0]), ((1, 0), (1, 0, 0)), ((1,), (1,)),
            ((1, 0), (True, 0)), ((1, False), (1, 0)), ((Ratio(1), 0), (1, 0)), ((1, 0), None), (None, None), (1, 0),
            ((1.0, 0), (1, 0)), {0: (1, 0), 1: (1, 0)}, ((0, 0), (1, 1)), ((1, 0), (0, 0)), (((1, 0), (1, 0)),), IDLE,
        )
        self.assert_same(is_broken_area((IDLE, IDLE), ((1, 0), (1, 0))), True)
        for value in wrong:
            self.assert_same(is_broken_area((IDLE, IDLE), value), False)
        for value in (None, ((1, 0, 0), (0, 1, 0)), ((1, 2, 3), (4, 5, 6))):
            self.assert_same(is_broken_area(area_tables(3), value), False)


class Multiplied(Case, unittest.TestCase):
    def test_times_of_area(self):
        chance = random.Random(107)
        for tables in some_areas():
            size = len(tables)
            times = times_of_area(tables)
            self.assertIs(type(times), Times)
            self.assert_same((times.weights, times.is_composing), ((1,) * (size + 1), True))
            self.assert_same(times.one(), (ONE,) + (NOUGHT,) * size)
            s, t = small_row(chance, 2)
            x, y = small_row(chance, size), small_row(chance, size)
            wanted = [fraction(s) * fraction(t) - dot(x, y)]
            for a, b, c in zip(fractions(x), fractions(y), fractions(row_product(tables, x, y))):
                wanted.append(fraction(s) * b + fraction(t) * a + c)
            self.assertEqual(fractions(times((s,) + x, (t,) + y)), wanted)

    def test_no_area_products(self):
        for tables in some_others():
            if broken_area(tables) is not None:
                self.assert_error(InvalidOperation, times_of_area, tables)

    def test_area_products_and_composing_ones(self):
        # For three unknowns, near the told one: the product of [8.4], by hand, multiplies the sum of squares or not.
        for tables in some_others():
            size = len(tables)
            if size <= 3:
                first = tuple([tuple([Ratio(int(at == place)) for at in range(size + 1)]) for place in range(size + 1)])
                others = [
                    (first[at + 1],) + tuple([(Ratio(-int(at == row)),) + tables[at][row] for row in range(size)])
                    for at in range(size)
                ]
                times = Times((1,) * (size + 1), (first,) + tuple(others))
                self.assert_same(times.is_composing, is_area_product(tables))


class NotTrue(Case, unittest.TestCase):
    def test_brackets_are_needed(self):
        x, y, z = (1, 0, 0), (1, 0, 0), (0, 1, 0)
        self.assertNotEqual(fractions(area(area(x, y), z)), fractions(area(x, area(y, z))))

    def test_seven_unknowns(self):
        units = [tuple([int(at == place) for at in range(7)]) for place in range(7)]
        x, y, z = units[0], units[1], units[3]
        self.assertEqual((dot(x, z), dot(x, y)), (0, 0))
        self.assertTrue(any(fractions(area(x, area(y, z)))))

    def test_right_angles_are_not_enough(self):
        tables = tuple([scaled_table(table, 2) for table in area_tables(3)])
        for x in product((0, 1, 2), repeat=3):
            for y in product((0, 1), repeat=3):
                told = row_product(tables, x, y)
                self.assertEqual((dot(told, x), dot(told, y)), (0, 0))
                self.assertEqual(fractions(told), [-entry for entry in fractions(row_product(tables, y, x))])
        self.assert_same(is_area_product(tables), False)

    def test_products_of_unit_rows(self):
        turn = table_of(((Ratio(3, 5), Ratio(4, 5), 0), (Ratio(-4, 5), Ratio(3, 5), 0), (0, 0, 1)))
        tables = moved(area_tables(3), turn)
        self.assert_same(is_area_product(tables), True)
        self.assertEqual(fractions(area((1, 0, 0), (1, 0, 0))), [0, 0, 0])
        seven = moved(area_tables(7), exact_turn(random.Random(108), 7, 9))
        self.assertTrue(any([abs(entry) not in (0, 1) for table in seven for row in table for entry in fractions(row)]))

    def test_example(self):
        self.assertEqual(
            [[str(entry) for entry in area((1, 0, 0), (0, 1, 0))], [str(entry) for entry in area((1, 2, 3), (4, 5, 6))],
             area((5,), (7,)) == (Ratio(0),)],
            [["0", "0", "1"], ["-3", "6", "-3"], True])
        self.assertEqual(
            [is_area_product(area_tables(7)), is_area_product((IDLE, IDLE)),
             is_broken_area((IDLE, IDLE), ((1, 0), (1, 0))), broken_area(area_tables(3)),
             times_of_area(area_tables(3)).dimension],
            [True, False, True, None, 4])
        self.assert_kept(InvalidNumber, "given", 2, area_tables, 2)

    def test_all_is_defined_in_the_file(self):
        names = (
            row_product, area, area_tables, is_area_product, broken_area, is_broken_area, times_of_area,
        )
        for one in names:
            self.assertEqual(one.__module__, areas.__name__)


if __name__ == "__main__":
    unittest.main()
