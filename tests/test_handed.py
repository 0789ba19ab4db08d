"""[7.1] to [7.6]: multiplications that are handed in."""

import operator
import random
import unittest

from squaretimes.base.ratios import Ratio
from squaretimes.base.tables import determinant, idle_table, scaled_table, table_of, table_product, turned_table
from squaretimes.double.doubled import Doubled, Element
from squaretimes.errors import InvalidAlgebra, InvalidRatio, InvalidTimes, Refused, TooMany
from squaretimes.form.formulas import is_formula
from squaretimes.square.weighted import without_squares
from squaretimes.times import handed
from squaretimes.times.handed import (
    MAX_TIMES, MAX_WEIGHT, Times, is_recognised, recognised, times_of_algebra, with_one,
)
from tests.helper import (
    GREAT, NO_RATIOS, TOO_GREAT, Case, exact_turn, fraction, fractions, plain, plain_product, plain_turned, small_row,
    told_signs,
)

ONE, NOUGHT = Ratio(1), Ratio(0)
ROUND, FLIP = table_of(((0, 1), (-1, 0))), table_of(((1, 0), (0, -1)))
TWOS = Times((1, 1), (idle_table(2), ROUND))
MATES = Times((1, 1), (FLIP, table_of(((0, -1), (-1, 0)))))
ALGEBRAS = tuple([Doubled(squares) for squares in (
    (), (-1,), (1,), (30,), (-17,), (-1, -1), (1, 1), (-5, 6), (2, -3), (-1, -1, -1), (1, 1, 1), (-2, 3, -5), (1, -1, 30),
    (-3, -1, -10),
)])


def unit(size, at):
    return tuple([int(place == at) for place in range(size)])


def plain_times(times, x, y):
    """The product of two rows, the sum written out."""
    size = len(x)
    return [
        sum([fraction(x[i]) * fraction(y[j]) * fraction(times.tables[i][j][k]) for i in range(size) for j in range(size)])
        for k in range(size)
    ]


def plain_weighed(times, x):
    return sum([weight * fraction(entry) ** 2 for weight, entry in zip(times.weights, x)])


def plain_rule(times):
    """The least pair by [7.2], with fractions."""
    size = len(times.weights)
    rows = [plain(table) for table in times.tables]
    weights = [[times.weights[at] * int(at == place) for place in range(size)] for at in range(size)]
    for i in range(size):
        for j in range(i, size):
            ahead = plain_product(plain_product(rows[i], weights), plain_turned(rows[j]))
            behind = plain_product(plain_product(rows[j], weights), plain_turned(rows[i]))
            for a in range(size):
                for b in range(size):
                    wanted = 2 * times.weights[i] * weights[a][b] if i == j else 0
                    if ahead[a][b] + behind[a][b] != wanted:
                        return i, j
    return None


def mirror(weights, normal):
    """A table that keeps weighed squares: the mirror across a row, whose weighed square is not 0."""
    norm = sum([weight * entry * entry for weight, entry in zip(weights, normal)])
    size = len(weights)
    return tuple([
        tuple([Ratio(int(i == j)) - (Ratio(2 * weights[i] * normal[i]) * normal[j]).over(norm) for j in range(size)])
        for i in range(size)
    ])


def any_mirror(chance, weights, most=5):
    while True:
        normal = [chance.randint(-most, most) for _ in weights]
        if sum([weight * entry * entry for weight, entry in zip(weights, normal)]):
            return mirror(weights, normal)


def moved(times, table, weights):
    """The multiplication in which each row stands for the row that the table makes of it.

    The table has rows that stand upright to each other, with the weights as their weighed squares.
    """
    back = tuple([
        tuple([(entry * above).over(below) for entry, below in zip(row, weights)])
        for row, above in zip(turned_table(table), times.weights)
    ])
    assert table_product(table, back) == idle_table(len(weights))
    size = len(weights)
    tables = [tuple([times(table[i], table[j]) for j in range(size)]) for i in range(size)]
    return Times(tuple(weights), tuple([table_product(one, back) for one in tables]))


def rebased(chance, times, steps):
    """The multiplication over another basis, with other weights."""
    size, weights = times.dimension, list(times.weights)
    rows = [list(row) for row in idle_table(size)]
    for _ in range(steps if size > 1 else 0):
        i, j = chance.sample(range(size), 2)
        s, t, p, q = chance.randint(0, 5), chance.randint(1, 5), weights[i], weights[j]
        norm = p * s * s + q * t * t
        if norm:
            (first, root), (second, other) = without_squares(norm), without_squares(p * q * norm)
            if max(abs(first), abs(second)) <= 30:
                ahead = [(a * s + b * t) * Ratio(1, root) for a, b in zip(rows[i], rows[j])]
                rows[j] = [(a * (q * t) - b * (p * s)) * Ratio(1, other) for a, b in zip(rows[i], rows[j])]
                rows[i] = ahead
                weights[i], weights[j] = first, second
    order = list(range(size))
    chance.shuffle(order)
    return moved(times, tuple([tuple(rows[at]) for at in order]), [weights[at] for at in order])


def with_a_one(times, chance):
    """A multiplication of [7.5] for a row with the weighed square 1 or -1."""
    rows = [row for row in any_mirror(chance, times.weights) if abs(plain_weighed(times, row)) == 1]
    return with_one(times, chance.choice(rows)) if rows else times


def some_times():
    """Composing multiplications with a one, moved about."""
    chance = random.Random(81)
    found = [times_of_algebra(algebra) for algebra in ALGEBRAS]
    for times in list(found):
        found.append(moved(times, any_mirror(chance, times.weights), times.weights))
        found.append(rebased(chance, times, 30))
        found.append(with_a_one(times, chance))
        found.append(with_a_one(found[-2], chance))
    for many in range(1, 4):
        size = 2 ** many
        tables = tuple([one.table() for one in told_signs(many)])
        found.append(moved(Times((1,) * size, tables), exact_turn(chance, size, 2 * size), (1,) * size))
        order = chance.sample(range(size), size)
        signs = tuple([tuple([Ratio(chance.choice((1, -1)) * int(at == to)) for at in range(size)]) for to in order])
        found.append(moved(Times((1,) * size, tables), signs, (1,) * size))
    return found


def near(chance, times):
    """A multiplication near another one: an entry or a weight changed, tables or rows exchanged."""
    weights = list(times.weights)
    tables = [[list(row) for row in table] for table in times.tables]
    at, row, column = [chance.randrange(len(weights)) for _ in range(3)]
    kind = chance.randrange(6)
    if kind == 0:
        tables[at][row][column] = tables[at][row][column] + chance.choice((1, -1, Ratio(1, 7)))
    elif kind == 1:
        tables[0], tables[at] = tables[at], tables[0]
    elif kind == 2:
        weights[at] = chance.choice((-weights[at], 1, 2, 30))
    elif kind == 3:
        tables[at][row] = [-entry for entry in tables[at][row]]
    elif kind == 4:
        tables[at] = [[entry * 2 for entry in line] for line in tables[at]]
    else:
        tables[at] = [list(line) for line in zip(*tables[at])]
    return Times(tuple(weights), tuple([tuple([tuple(line) for line in table]) for table in tables]))


NO_TIMES = NO_RATIOS + (ONE, TWOS.tables, (1, 1), (TWOS,), [TWOS], Times, ((1, 1), TWOS.tables), Doubled((-1,)))


class Made(Case, unittest.TestCase):
    def test_constants(self):
        self.assert_same([MAX_TIMES, MAX_WEIGHT], [8, 30])

    def test_told(self):
        for times in some_times():
            again = Times(times.weights, times.tables)
            self.assert_same((again.weights, again.tables, again.dimension),
                             (times.weights, times.tables, len(times.weights)))
        for size in range(1, 9):
            times = Times((30, -30, 1, -1, 7, 2, -3, 5)[:size], (idle_table(size),) * size)
            self.assert_same((times.dimension, times.weights[0]), (size, 30))

    def test_what_is_no_multiplication(self):
        tables = (idle_table(2), ROUND)
        wrong_weights = NO_RATIOS + (
            1, (), (1,), (1, 1, 1), [1, 1], (1, 0), (0, 1), (1, True), (False, 1), (1, 31), (-31, 1), (1, None),
            (1, "1"), (Ratio(1), 1), (1, Ratio(1)), (1.0, 1), (1, 10 ** 99), (1, (1,)), {0: 1, 1: 1},
        )
        for value in wrong_weights:
            self.assert_error(InvalidTimes, Times, value, tables)
            self.assert_error(InvalidTimes, Times, value, None)
        wrong_tables = NO_RATIOS + (
            (idle_table(2),), tables + (ROUND,), [idle_table(2), ROUND], (idle_table(2), [ROUND]), (idle_table(2), None),
            (idle_table(2), idle_table(3)), (idle_table(3), idle_table(3)), (((1, 0), (0, 1)), ROUND), tables[0],
            (idle_table(2), ((ONE, NOUGHT),)), (idle_table(2), ((ONE,), (ONE,))), (idle_table(2), ((ONE, True), (ONE, ONE))),
            (idle_table(2), ((ONE, 0), (ONE, ONE))), ({0: ROUND}, ROUND), TWOS, (idle_table(2), ((ONE, ONE), [ONE, ONE])),
        )
        for value in wrong_tables:
            self.assert_error(InvalidTimes, Times, (1, 1), value)
        self.assert_error(InvalidTimes, Times, (1,) * 9, (idle_table(9),) * 9)
        self.assert_error(InvalidTimes, Times, (1,) * 8, (idle_table(9),) * 8)
        self.assert_error(InvalidTimes, Times, (), ())
        self.assert_error(InvalidTimes, Times, (1,), (((1,),),))

    def test_equal(self):
        self.assert_same([TWOS == Times((1, 1), (idle_table(2), ROUND)), TWOS != MATES, TWOS == MATES], [True, True, False])
        self.assert_same(TWOS == Times((1, 2), TWOS.tables), False)
        for value in (None, True, TWOS.tables, (1, 1), "times of 2 with weights 1 1", 2, Doubled((-1,)), object(), Times):
            self.assert_same([TWOS == value, TWOS != value], [False, True])

    def test_str(self):
        self.assert_same([str(TWOS), str(Times((-30,), (((ONE,),),)))],
                         ["times of 2 with weights 1 1", "times of 1 with weights -30"])
        self.assert_same(str(times_of_algebra(Doubled((-2, 3)))), "times of 4 with weights 1 2 -3 -6")

    def test_it_never_changes_and_is_not_iterated_over(self):
        for name in ("weights", "tables", "dimension", "is_composing"):
            self.assertRaises(AttributeError, setattr, TWOS, name, 1)
        self.assertRaises(TypeError, iter, TWOS)
        self.assertRaises(TypeError, operator.contains, TWOS, 1)

    def test_all_is_defined_in_the_class_itself(self):
        names = (
            "weights", "tables", "dimension", "is_composing", "__call__", "weighed", "one", "broken_rule", "__eq__",
            "__str__", "__init__",
        )
        for name in names:
            self.assertIn(name, vars(Times))
        for one in (Times, times_of_algebra, with_one, recognised, is_recognised):
            self.assertEqual(one.__module__, handed.__name__)


class Counted(Case, unittest.TestCase):
    def test_products_and_weighed_squares(self):
        chance = random.Random(82)
        for times in some_times() + [near(chance, one) for one in some_times()]:
            x, y = small_row(chance, times.dimension), small_row(chance, times.dimension)
            told = times(x, y)
            self.assertEqual({type(told)} | set(map(type, told)), {tuple, Ratio})
            self.assertEqual(fractions(told), plain_times(times, x, y))
            self.assertIs(type(times.weighed(x)), Ratio)
            self.assertEqual(fraction(times.weighed(x)), plain_weighed(times, x))
            i, j = chance.randrange(times.dimension), chance.randrange(times.dimension)
            self.assert_same(times(unit(times.dimension, i), unit(times.dimension, j)), times.tables[i][j])

    def test_composing_ones_multiply_weighed_squares(self):
        chance = random.Random(83)
        for times in some_times():
            self.assert_same((times.is_composing, times.broken_rule()), (True, None))
            x, y = small_row(chance, times.dimension), small_row(chance, times.dimension)
            self.assertTrue(times.weighed(times(x, y)) == times.weighed(x) * times.weighed(y))

    def test_rows_that_are_none(self):
        wrong = NO_RATIOS + (
            (), (1,), (1, 2, 3), [1, 2], (1, True), (1, None), (1, "2"), ((1, 2),), (1, TOO_GREAT), {0: 1, 1: 2}, TWOS,
        )
        for value in wrong:
            self.assert_error(InvalidRatio, TWOS, value, (1, 2))
            self.assert_error(InvalidRatio, TWOS, (1, 2), value)
            self.assert_error(InvalidRatio, TWOS.weighed, value)

    def test_great_rows(self):
        long = Ratio(GREAT) * GREAT
        self.assertEqual(fractions(TWOS((long, GREAT), (GREAT, 1))), plain_times(TWOS, (long, GREAT), (GREAT, 1)))


class Rules(Case, unittest.TestCase):
    def test_multiplications_near_composing_ones(self):
        chance = random.Random(84)
        pairs = set()
        for times in some_times():
            for _ in range(2 if times.dimension == 8 else 6):
                changed = near(chance, times)
                wanted = plain_rule(changed)
                pairs.add(wanted)
                self.assert_same((changed.broken_rule(), changed.is_composing), (wanted, wanted is None))
        self.assertGreater(len(pairs), 10)

    def test_the_least_pair(self):
        idle = idle_table(2)
        self.assert_same(
            [Times((1, 1), (ROUND, ROUND)).broken_rule(), Times((1, 1), (idle, scaled_table(ROUND, 2))).broken_rule(),
             Times((1, 2), (idle, ROUND)).broken_rule(), Times((2, 2), (idle, ROUND)).broken_rule(),
             Times((2,), (((Ratio(2),),),)).broken_rule(), Times((4,), (((Ratio(-2),),),)).broken_rule()],
            [(0, 1), (1, 1), (0, 1), (0, 0), (0, 0), None])

    def test_with_weights_1_it_is_a_formula(self):
        chance = random.Random(85)
        for times in some_times():
            if set(times.weights) == {1}:
                self.assertTrue(is_formula(times.tables))
                for _ in range(5):
                    changed = near(chance, times)
                    if set(changed.weights) == {1}:
                        self.assert_same(changed.is_composing, is_formula(changed.tables))


class Ones(Case, unittest.TestCase):
    def test_ones(self):
        chance = random.Random(86)
        for times in some_times():
            one = times.one()
            self.assertEqual({type(one)} | set(map(type, one)), {tuple, Ratio})
            for _ in range(3):
                x = small_row(chance, times.dimension)
                self.assertEqual(fractions(times(one, x)), fractions(x))
                self.assertEqual(fractions(times(x, one)), fractions(x))

    def test_none(self):
        self.assertIsNone(MATES.one())
        idle = idle_table(2)
        # A one from one side alone, many of them, and none at all.
        nought = scaled_table(idle, 0)
        self.assertIsNone(Times((1, 1), (idle, idle)).one())
        self.assertIsNone(Times((1, 1), (idle, nought)).one())
        self.assertIsNone(Times((1, 1), (((ONE, NOUGHT),) * 2, ((NOUGHT, ONE),) * 2)).one())
        self.assertIsNone(Times((1, 1), (nought, nought)).one())
        self.assertIsNone(Times((1,), (((NOUGHT,),),)).one())
        self.assertIsNone(Times((1, 1), (ROUND, FLIP)).one())

    def test_ones_of_other_multiplications(self):
        # Without weighed squares that are kept: three numbers multiplied one by one, and the tables of two rows.
        tables = tuple([tuple([tuple([Ratio(int(i == j == k)) for k in range(3)]) for j in range(3)]) for i in range(3)])
        self.assert_same(Times((1, 2, 3), tables).one(), (ONE, ONE, ONE))
        self.assert_same(Times((1,), (((Ratio(-2, 3),),),)).one(), (Ratio(-3, 2),))
        places = [(0, 0), (0, 1), (1, 0), (1, 1)]
        tables = tuple([
            tuple([tuple([Ratio(int(b == c and (a, d) == place)) for place in places]) for c, d in places])
            for a, b in places
        ])
        self.assert_same(Times((1, 1, 1, 1), tables).one(), (ONE, NOUGHT, NOUGHT, ONE))

    def test_rows_without_entries_in_common(self):
        chance = random.Random(87)
        for times in some_times():
            changed = near(chance, times)
            one = changed.one()
            if one is not None:
                for at in range(times.dimension):
                    row = unit(times.dimension, at)
                    self.assertEqual(fractions(changed(one, row)), list(row))
                    self.assertEqual(fractions(changed(row, one)), list(row))


class OfAlgebras(Case, unittest.TestCase):
    def test_products_of_entries(self):
        chance = random.Random(88)
        for algebra in ALGEBRAS:
            times = times_of_algebra(algebra)
            self.assert_same(times.weights, tuple([one.norm.top for one in algebra.units()]))
            self.assert_same(times.dimension, algebra.dimension)
            x, y = [tuple([chance.randint(-9, 9) for _ in range(algebra.dimension)]) for _ in range(2)]
            product = Element(algebra, x) * Element(algebra, y)
            self.assert_same(times(x, y), tuple([Ratio(entry) for entry in product.entries]))
            self.assertTrue(times.weighed(x) == Element(algebra, x).norm)

    def test_bounds(self):
        self.assert_same([times_of_algebra(Doubled((30,))).weights, times_of_algebra(Doubled((5, -6))).weights],
                         [(1, -30), (1, -5, 6, -30)])
        for squares in ((31,), (-31,), (1000000,), (4, 8), (1, -31), (2, 4, 4), (5, 1, -7), (-1, -1, 31)):
            self.assert_kept(TooMany, "most", 30, times_of_algebra, Doubled(squares))
        for squares in ((-1, -1, -1, -1), (31, 1, 1, 1), (1000000,) * 4):
            self.assert_kept(TooMany, "most", 8, times_of_algebra, Doubled(squares))
        for value in NO_TIMES + (TWOS, Element(Doubled(()), (1,)), (-1,)):
            if not isinstance(value, Doubled):
                self.assert_error(InvalidAlgebra, times_of_algebra, value)


class WithOne(Case, unittest.TestCase):
    def test_the_row_is_taken_back(self):
        chance = random.Random(89)
        seen = set()
        for times in some_times():
            rows = [tuple([Ratio(entry.top, entry.bottom) for entry in row])
                    for row in any_mirror(chance, times.weights) + any_mirror(chance, times.weights)]
            for v in [row for row in rows if abs(plain_weighed(times, row)) == 1][:3]:
                seen.add((times.dimension, plain_weighed(times, v)))
                made = with_one(times, v)
                self.assert_same((made.weights, made.is_composing), (times.weights, True))
                self.assert_same(made.one(), times(v, v))
                x, y = small_row(chance, times.dimension), small_row(chance, times.dimension)
                self.assert_same(made(times(x, v), times(v, y)), times(x, y))
        self.assertEqual(seen, {(size, sign) for size in (1, 2, 4, 8) for sign in (1, -1)} - {(1, -1)})

    def test_without_a_one_before(self):
        self.assertTrue(with_one(MATES, (1, 0)) == TWOS)
        v = (Ratio(3, 5), Ratio(4, 5))
        self.assert_same(with_one(MATES, v).one(), MATES(v, v))
        minus = Times((-1,), (((ONE,),),))
        self.assert_same(minus.broken_rule(), (0, 0))
        self.assert_kept(Refused, "reason", ("rule", 0, 0), with_one, minus, (1,))

    def test_refused(self):
        bent = Times((1, 1), (idle_table(2), scaled_table(ROUND, 2)))
        for values in ((1, 0), (5, 5), (0, 0)):
            self.assert_kept(Refused, "reason", ("rule", 1, 1), with_one, bent, values)
        for values in ((0, 0), (1, 1), (2, 0), (Ratio(1, 2), Ratio(1, 2)), (GREAT, 1), (Ratio(GREAT) * GREAT, 0)):
            self.assert_kept(Refused, "reason", ("square",), with_one, TWOS, values)

    def test_errors(self):
        bent = Times((1, 1), (ROUND, ROUND))
        for value in NO_TIMES:
            self.assert_error(InvalidTimes, with_one, value, None)
            self.assert_error(InvalidTimes, recognised, value)
            self.assert_error(InvalidTimes, is_recognised, value, None)
        wrong = NO_RATIOS + ((), (1,), (1, 0, 0), [1, 0], (1, True), (1, None), (TOO_GREAT, 0), {0: 1, 1: 0}, TWOS)
        for value in wrong:
            self.assert_error(InvalidRatio, with_one, TWOS, value)
            self.assert_error(InvalidRatio, with_one, bent, value)


def plain_is_likeness(times, algebra, images):
    """By [7.4], with fractions: units and their sums are taken as told."""
    units = algebra.units()
    rows = plain(images)
    for one in units:
        for other in units:
            product = [fraction(entry) for entry in (one * other).entries]
            left = [sum([entry * row[at] for entry, row in zip(product, rows)]) for at in range(len(rows))]
            if left != plain_times(times, images[one.entries.index(1)], images[other.entries.index(1)]):
                return False
            row = [a + b for a, b in zip(rows[one.entries.index(1)], rows[other.entries.index(1)])]
            if plain_weighed_of(times, row) != fraction((one + other).norm):
                return False
    return bool(determinant(images))


def plain_weighed_of(times, row):
    return sum([weight * entry * entry for weight, entry in zip(times.weights, row)])


class Recognised(Case, unittest.TestCase):
    def test_likenesses(self):
        for times in some_times():
            told = recognised(times)
            self.assert_same((type(told), len(told)), (tuple, 2))
            algebra, images = told
            self.assertIs(type(algebra), Doubled)
            self.assertEqual(algebra.dimension, times.dimension)
            self.assertLessEqual(max([abs(square) for square in algebra.squares], default=1), 10 ** 6)
            self.assertTrue(plain_is_likeness(times, algebra, images))
            self.assert_same(is_recognised(times, told), True)
            self.assert_same(images[0], times.one())

    def test_other_weights(self):
        chance = random.Random(90)
        for squares in ((-1, -1, -1), (-2, -3, -5), (1, 1, 1), (2, -3, 5), (-19, 1, -1), (-1, -29, 1), (-7, -2), (23, -1)):
            for _ in range(2):
                times = rebased(chance, times_of_algebra(Doubled(squares)), 60)
                times = moved(times, any_mirror(chance, times.weights, 20), times.weights)
                told = recognised(times)
                self.assertTrue(plain_is_likeness(times, *told) and is_recognised(times, told))
                self.assertLessEqual(max([abs(square) for square in told[0].squares]), 10 ** 6)

    def test_weights_with_few_primes(self):
        # The weights 1 and -1 of two rows become p and -p, for four pairs of them.
        times = times_of_algebra(Doubled((1, 1, 1)))
        ahead = [at for at in range(8) if times.weights[at] == 1]
        behind = [at for at in range(8) if times.weights[at] == -1]
        for primes in ((29, 29, 17, 23), (23, 23, 23, 23), (19, 23, 29, 30), (5, 13, 15, 13), (1, 29, 29, 29)):
            rows = [list(row) for row in scaled_table(idle_table(8), 0)]
            weights = [0] * 8
            for prime, one, other in zip(primes, ahead, behind):
                rows[one][one] = rows[other][other] = Ratio(prime + 1, 2)
                rows[one][other] = rows[other][one] = Ratio(prime - 1, 2)
                weights[one], weights[other] = prime, -prime
            changed = moved(times, tuple([tuple(row) for row in rows]), weights)
            told = recognised(changed)
            self.assertTrue(plain_is_likeness(changed, *told) and is_recognised(changed, told))
            self.assertLessEqual(max([abs(square) for square in told[0].squares]), 10 ** 6)

    def test_ones_apart_by_a_row_of_the_weighed_square_0(self):
        for squares in ((1, -1), (1, -1, -1), (1, -1, 5)):
            times = times_of_algebra(Doubled(squares))
            for part in (Ratio(1, 2), Ratio(-7, 3)):
                times = with_one(times, (1, part, part) + (0,) * (times.dimension - 3))
                one = times.one()
                apart = (one[0] - 1,) + one[1:]
                self.assertTrue(times.weighed(apart) == 0 and any(apart))
                told = recognised(times)
                self.assertTrue(plain_is_likeness(times, *told) and is_recognised(times, told))

    def test_long_integers(self):
        chance = random.Random(91)
        times = times_of_algebra(Doubled((-2, -3, 5)))
        for _ in range(2):
            times = moved(times, any_mirror(chance, times.weights, 10 ** 25), times.weights)
        told = recognised(times)
        self.assert_same(is_recognised(times, told), True)

    def test_likenesses_of_doubles(self):
        chance = random.Random(92)
        for algebra in ALGEBRAS:
            times = times_of_algebra(algebra)
            self.assert_same(is_recognised(times, (algebra, idle_table(times.dimension))), True)
            # What each unit that doubles is multiplied by, its square is multiplied by twice.
            factors = [chance.choice((1, -2, 3, 50)) for _ in algebra.squares]
            squares = tuple([square * factor ** 2 for square, factor in zip(algebra.squares, factors)])
            row = [1]
            for factor in factors:
                row = row + [entry * factor for entry in row]
            images = tuple([tuple([entry * factor for entry in line]) for line, factor in zip(idle_table(len(row)), row)])
            self.assert_same(is_recognised(times, (Doubled(squares), images)), True)

    def test_values_near_a_likeness(self):
        chance = random.Random(93)
        judged = 0
        for times in some_times():
            algebra, images = recognised(times)
            size = times.dimension
            if size == 1:
                continue
            changed = [list(row) for row in images]
            row, column = chance.randrange(size), chance.randrange(size)
            changed[row][column] = changed[row][column] + 1
            first, second = chance.sample(range(size), 2)
            exchanged = list(images)
            exchanged[first], exchanged[second] = images[second], images[first]
            turned = list(images)
            turned[row] = tuple([-entry for entry in images[row]])
            flat = tuple([images[0]] * size)
            tables = (tuple([tuple(line) for line in changed]), tuple(exchanged), tuple(turned), flat, idle_table(size),
                      scaled_table(images, 2), scaled_table(images, 0), turned_table(images))
            for table in chance.sample(tables, 3) if size == 8 else tables:
                wanted = plain_is_likeness(times, algebra, table)
                judged = judged + int(wanted)
                self.assert_same(is_recognised(times, (algebra, table)), wanted)
            others = [tuple([square * 4 for square in algebra.squares]), tuple([-square for square in algebra.squares]),
                      algebra.squares[:-1], algebra.squares + (-1,), algebra.squares[::-1]]
            for squares in others:
                if len(squares) <= 4 and max(map(abs, squares), default=1) <= 10 ** 6 and squares != algebra.squares:
                    wanted = len(squares) == len(algebra.squares) and plain_is_likeness(times, Doubled(squares), images)
                    self.assert_same(is_recognised(times, (Doubled(squares), images)), wanted)
        self.assertGreater(judged, 3)

    def test_values_of_other_kinds(self):
        algebra, idle = Doubled((-1,)), idle_table(2)
        wrong = NO_RATIOS + (
            [algebra, idle], (algebra,), (algebra, idle, idle), (idle, algebra), (algebra, None), (None, idle), algebra,
            idle, (algebra, [idle[0], idle[1]]), (algebra, (list(idle[0]), idle[1])), (algebra, ((ONE, 0), (NOUGHT, ONE))),
            (algebra, ((ONE, NOUGHT), (NOUGHT, 1))), (algebra, ((ONE, False), (NOUGHT, ONE))), (algebra, idle_table(3)),
            (algebra, ((ONE, NOUGHT),)), (algebra, ((ONE,), (NOUGHT,))), (Doubled(()), idle), (Doubled(()), ((ONE,),)),
            (Doubled((-1, -1)), idle_table(4)), ((-1,), idle), (Doubled((-1,)).one(), idle), (algebra, (algebra, idle)),
            {0: algebra, 1: idle}, TWOS, (TWOS, idle), (algebra, ((10 ** 5000,),)),
        )
        for value in wrong:
            self.assert_same(is_recognised(TWOS, value), False)
        self.assert_same(is_recognised(TWOS, (algebra, idle)), True)

    def test_without_a_one_or_not_composing(self):
        algebra, idle = Doubled((-1,)), idle_table(2)
        bent = Times((1, 1), (idle, scaled_table(ROUND, 2)))
        for times in (MATES, bent, Times((1, 1), (ROUND, ROUND)), Times((1, 2), TWOS.tables)):
            for value in ((algebra, idle), (algebra, FLIP), (Doubled((-4,)), table_of(((1, 0), (0, 2)))), None):
                self.assert_same(is_recognised(times, value), False)
        # It takes products to products, but the norm is another one.
        self.assert_same(is_recognised(bent, (Doubled((-2,)), idle)), False)
        self.assert_same(is_recognised(Times((1, 2), (idle, table_of(((0, 1), (-2, 0))))), (Doubled((-2,)), idle)), True)
        self.assert_same(is_recognised(Times((1, 1), (idle, table_of(((0, 1), (-2, 0))))), (Doubled((-2,)), idle)), False)
        three = Times((1, 1, 1), (idle_table(3),) * 3)
        self.assert_same([is_recognised(three, (algebra, idle_table(3))), is_recognised(three, None)], [False, False])

    def test_refused(self):
        bent = Times((1, 1), (idle_table(2), scaled_table(ROUND, 2)))
        self.assert_kept(Refused, "reason", ("rule", 1, 1), recognised, bent)
        # Without a one, too, the rule is told first.
        self.assertIsNone(Times((1, 1), (ROUND, ROUND)).one())
        self.assert_kept(Refused, "reason", ("rule", 0, 1), recognised, Times((1, 1), (ROUND, ROUND)))
        self.assert_kept(Refused, "reason", ("rule", 0, 1), recognised, Times((1, 1, 1), (idle_table(3),) * 3))
        self.assert_kept(Refused, "reason", ("one",), recognised, MATES)
        chance = random.Random(94)
        four = times_of_algebra(Doubled((-1, -1)))
        ahead = exact_turn(chance, 4)
        spun = Times((1,) * 4, tuple([table_product(ahead, table) for table in four.tables]))
        self.assert_same([spun.is_composing, spun.one()], [True, None])
        self.assert_kept(Refused, "reason", ("one",), recognised, spun)


class NotTrue(Case, unittest.TestCase):
    def test_a_composing_one_without_a_one(self):
        self.assert_same([MATES.is_composing, MATES.one()], [True, None])

    def test_more_than_one_likeness(self):
        for table in (idle_table(2), FLIP):
            self.assert_same(is_recognised(TWOS, (Doubled((-1,)), table)), True)

    def test_rules_of_single_tables_are_not_enough(self):
        times = Times((1, 1), (idle_table(2), idle_table(2)))
        self.assert_same([times.broken_rule(), is_formula((idle_table(2),))], [(0, 1), True])

    def test_two_with_equal_weights(self):
        other = with_one(MATES, (0, 1))
        self.assert_same([other.is_composing, other.one() is None, other.weights == TWOS.weights, other == TWOS],
                         [True, False, True, False])

    def test_example(self):
        self.assertEqual(
            [TWOS((3, 4), (1, 2)) == (Ratio(-5), Ratio(10)), str(TWOS.weighed((3, 4))),
             TWOS.one() == (Ratio(1), Ratio(0)), TWOS.is_composing, str(TWOS)],
            [True, "25", True, True, "times of 2 with weights 1 1"])
        self.assertEqual(
            [TWOS == times_of_algebra(Doubled((-1,))), is_recognised(TWOS, (Doubled((-1,)), FLIP)),
             is_recognised(TWOS, (Doubled((-4,)), table_of(((1, 0), (0, 2))))),
             is_recognised(TWOS, (Doubled((-1,)), ROUND))],
            [True, True, True, False])
        self.assertEqual(
            [MATES.is_composing, MATES.one(), with_one(MATES, (1, 0)) == TWOS,
             with_one(MATES, (0, 1)).one() == (Ratio(-1), Ratio(0))],
            [True, None, True, True])


if __name__ == "__main__":
    unittest.main()
