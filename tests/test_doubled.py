"""[5.1] to [5.6]: doubled algebras and their elements."""

import operator
import random
import unittest
from fractions import Fraction
from math import gcd, isqrt

from squaretimes.base.ratios import Ratio
from squaretimes.double import doubled
from squaretimes.double.doubled import (
    MAX_DOUBLINGS, MAX_NOUGHT, MAX_POWER, MAX_SQUARE, Doubled, Element, associator, is_nought_pair, nought_pair,
)
from squaretimes.errors import InvalidAlgebra, InvalidElement, InvalidOperation, InvalidRatio, Refused, TooMany
from tests.helper import GREAT, NO_INTEGERS, NO_PASSED_INTEGERS, NO_RATIOS, TOO_GREAT, Case, fraction

FOUR, EIGHT, OTHER = Doubled((-1, -1)), Doubled((-1, -1, -1)), Doubled((1, 1, 1))
SIXTEEN = Doubled((-1, -1, -1, -1))
ALGEBRAS = tuple([Doubled(squares) for squares in (
    (), (-1,), (1,), (4,), (7,), (-1000000,), (-1, -1), (2, 3), (-5, 12), (-1, -1, -1), (1, 1, 1), (-2, 3, -5),
    (6, -1, 30), (-1, -1, -1, -1), (1, -2, 3, -1), (-3, -1, -2, 5),
)])


def plain_mate(x):
    """The mate of nested pairs of fractions, straight from [5.1]."""
    return (plain_mate(x[0]), plain_minus(x[1])) if isinstance(x, tuple) else x


def plain_minus(x):
    return (plain_minus(x[0]), plain_minus(x[1])) if isinstance(x, tuple) else -x


def plain_sum(x, y):
    return (plain_sum(x[0], y[0]), plain_sum(x[1], y[1])) if isinstance(x, tuple) else x + y


def plain_scaled(c, x):
    return (plain_scaled(c, x[0]), plain_scaled(c, x[1])) if isinstance(x, tuple) else c * x


def plain_product(squares, one, other):
    if not squares:
        return one * other
    c, less = squares[-1], squares[:-1]
    (x, y), (u, v) = one, other
    ahead = plain_sum(plain_product(less, x, u), plain_scaled(c, plain_product(less, plain_mate(v), y)))
    return ahead, plain_sum(plain_product(less, v, x), plain_product(less, y, plain_mate(u)))


def nested(entries):
    half = len(entries) // 2
    return entries[0] if half == 0 else (nested(entries[:half]), nested(entries[half:]))


def flat(x):
    return flat(x[0]) + flat(x[1]) if isinstance(x, tuple) else [x]


def worth(element):
    """The entries of an element as fractions."""
    return [Fraction(entry, element.bottom) for entry in element.entries]


def any_element(chance, algebra, most=9):
    entries = tuple([chance.choice((0, chance.randint(-most, most))) for _ in range(algebra.dimension)])
    return Element(algebra, entries, chance.choice((1, 1, 2, -3, 4, 6)))


def plain_power(element, many):
    total = element.algebra.one()
    for _ in range(abs(many)):
        total = total * element
    return total if many >= 0 else total.inverse()


NO_ALGEBRAS = NO_RATIOS + (Ratio(1), (-1,), (), Doubled, (FOUR,), [FOUR], FOUR.one(), "doubled by -1")
NO_ELEMENTS = NO_RATIOS + (Ratio(1), FOUR, (FOUR.one(),), [FOUR.one()], (1, 0, 0, 0), "e1", Element)


class Algebras(Case, unittest.TestCase):
    def test_constants(self):
        self.assert_same([MAX_SQUARE, MAX_DOUBLINGS, MAX_POWER, MAX_NOUGHT], [1000000, 4, 1000, 30])

    def test_told(self):
        for algebra in ALGEBRAS:
            again = Doubled(algebra.squares)
            self.assertTrue(again == algebra)
            self.assert_same(algebra.dimension, 2 ** len(algebra.squares))
            self.assert_same(algebra.is_definite, all([square < 0 for square in algebra.squares]))
        self.assert_same([FOUR.is_definite, OTHER.is_definite, Doubled((-1, 2)).is_definite], [True, False, False])
        self.assert_same([Doubled((1000000,)).squares, Doubled((-1000000,) * 4).dimension], [(1000000,), 16])

    def test_what_are_no_squares(self):
        wrong = tuple([value for value in NO_INTEGERS if value not in ((), (1,))]) + (
            1, -1, [-1], [], (0,), (-1, 0), (-1, -1, -1, 0), (1,) * 5, (1000001,), (-1000001,), (True,), (-1, True),
            (False,), (None,), ("1",), ((1,),), (1.0,), (Ratio(1),), (10 ** 99,), (-10 ** 60,), {1: 1}, FOUR, (FOUR,),
        )
        for value in wrong:
            self.assert_error(InvalidAlgebra, Doubled, value)

    def test_one_and_units(self):
        for algebra in ALGEBRAS:
            units = algebra.units()
            self.assert_same((type(units), len(units)), (tuple, algebra.dimension))
            for at, unit in enumerate(units):
                self.assert_same(unit.entries, tuple([int(place == at) for place in range(algebra.dimension)]))
                self.assert_same(unit.bottom, 1)
                self.assertTrue(unit.algebra == algebra)
            self.assertIs(type(algebra.one()), Element)
            self.assertTrue(algebra.one() == units[0])

    def test_equal(self):
        for at, one in enumerate(ALGEBRAS):
            for place, other in enumerate(ALGEBRAS):
                self.assert_same([one == other, one != other], [at == place, at != place])
        self.assert_same(Doubled((2, 3)) == Doubled((3, 2)), False)
        for value in (None, True, (-1, -1), "doubled by -1 -1", 4, FOUR.one(), Ratio(1), object(), Doubled):
            self.assert_same([FOUR == value, FOUR != value], [False, True])

    def test_str(self):
        self.assert_same([str(Doubled(())), str(Doubled((-1, -1, 2))), str(Doubled((7,)))],
                         ["ratios", "doubled by -1 -1 2", "doubled by 7"])

    def test_it_never_changes_and_is_not_iterated_over(self):
        for name in ("squares", "dimension", "is_definite"):
            self.assertRaises(AttributeError, setattr, FOUR, name, 1)
        for value in (FOUR, FOUR.one()):
            self.assertRaises(TypeError, iter, value)
            self.assertRaises(TypeError, operator.contains, value, 1)
        for name in ("algebra", "entries", "bottom", "trace", "norm", "is_ratio"):
            self.assertRaises(AttributeError, setattr, FOUR.one(), name, 1)

    def test_all_is_defined_in_the_classes_themselves(self):
        for name in ("squares", "dimension", "is_definite", "one", "units", "__eq__", "__str__", "__init__"):
            self.assertIn(name, vars(Doubled))
        names = (
            "algebra", "entries", "bottom", "trace", "norm", "is_ratio", "mate", "inverse", "power", "scaled",
            "__add__", "__sub__", "__mul__", "__neg__", "__eq__", "__bool__", "__str__", "__init__",
        )
        for name in names:
            self.assertIn(name, vars(Element))
        for one in (Doubled, Element, associator, nought_pair, is_nought_pair):
            self.assertEqual(one.__module__, doubled.__name__)


class Made(Case, unittest.TestCase):
    def test_lowest_terms(self):
        chance = random.Random(51)
        for algebra in ALGEBRAS:
            for _ in range(10):
                entries = tuple([chance.choice((0, 6, 4, -12, 9, GREAT)) for _ in range(algebra.dimension)])
                bottom = chance.choice((1, -1, 2, -6, 12, GREAT, -GREAT))
                element = Element(algebra, entries, bottom)
                self.assertEqual(worth(element), [Fraction(entry, bottom) for entry in entries])
                self.assert_same((type(element.entries), type(element.bottom)), (tuple, int))
                self.assertGreater(element.bottom, 0)
                self.assertEqual(gcd(element.bottom, *element.entries), 1)
        nought = Element(FOUR, (0, 0, 0, 0), -7)
        self.assert_same((nought.entries, nought.bottom), ((0, 0, 0, 0), 1))

    def test_errors(self):
        good = (1, 0, 0, 0)
        for value in NO_ALGEBRAS:
            self.assert_error(InvalidAlgebra, Element, value, good)
            self.assert_error(InvalidAlgebra, Element, value, None, 0)
        wrong = NO_PASSED_INTEGERS + (
            [1, 0, 0, 0], (1, 0, 0), (1, 0, 0, 0, 0), (1, 0, 0, True), (False, 0, 0, 0), (1, 0, None, 0),
            ("1", 0, 0, 0), (1, 0, 0, TOO_GREAT), (-TOO_GREAT, 0, 0, 0), (Ratio(1), 0, 0, 0), (1.0, 0, 0, 0), FOUR.one(),
        )
        for value in wrong:
            self.assert_error(InvalidElement, Element, FOUR, value)
            self.assert_error(InvalidElement, Element, FOUR, value, 0)
        for value in NO_PASSED_INTEGERS + (0,):
            self.assert_number(value, Element, FOUR, good, value)
        self.assert_same(Element(Doubled(()), (4,), 6).entries, (2,))


class Counted(Case, unittest.TestCase):
    def test_products_by_halves(self):
        chance = random.Random(52)
        for algebra in ALGEBRAS:
            for _ in range(12):
                x, y = any_element(chance, algebra), any_element(chance, algebra)
                wanted = flat(plain_product(algebra.squares, nested(worth(x)), nested(worth(y))))
                told = x * y
                self.assertIs(type(told), Element)
                self.assertEqual(worth(told), wanted)
                self.assertEqual(gcd(told.bottom, *told.entries), 1)
                self.assertTrue(told.algebra == algebra)

    def test_products_of_units(self):
        for algebra in ALGEBRAS:
            units = algebra.units()
            size = algebra.dimension
            for i, one in enumerate(units):
                self.assertTrue(units[0] * one == one and one * units[0] == one)
                for j, other in enumerate(units):
                    product = one * other
                    self.assertEqual([at for at in range(size) if product.entries[at]], [i ^ j])
                    if 0 < i < j:
                        self.assertTrue(product == -(other * one))
            for at, square in enumerate(algebra.squares):
                self.assertTrue(units[2 ** at] * units[2 ** at] == units[0].scaled(square))

    def test_sums(self):
        chance = random.Random(53)
        for algebra in ALGEBRAS:
            for _ in range(8):
                x, y = any_element(chance, algebra), any_element(chance, algebra)
                self.assertEqual(worth(x + y), [a + b for a, b in zip(worth(x), worth(y))])
                self.assertEqual(worth(x - y), [a - b for a, b in zip(worth(x), worth(y))])
                self.assertEqual(worth(-x), [-a for a in worth(x)])
                for told in (x + y, x - y, -x, x - x):
                    self.assertEqual(gcd(told.bottom, *told.entries), 1)
                    self.assertGreater(told.bottom, 0)
                self.assert_same((x - x).bottom, 1)

    def test_scaled(self):
        chance = random.Random(54)
        for algebra in ALGEBRAS:
            x = any_element(chance, algebra)
            for factor in (0, 1, -3, GREAT, Ratio(-2, 3), Ratio(0), Ratio(GREAT) * GREAT):
                told = x.scaled(factor)
                self.assertEqual(worth(told), [entry * fraction(factor) for entry in worth(x)])
                self.assertEqual(gcd(told.bottom, *told.entries), 1)
        for value in NO_RATIOS + (FOUR.one(),):
            self.assert_error(InvalidRatio, FOUR.one().scaled, value)

    def test_mates_traces_and_norms(self):
        chance = random.Random(55)
        for algebra in ALGEBRAS:
            one = algebra.one()
            for _ in range(8):
                x, y = any_element(chance, algebra), any_element(chance, algebra)
                self.assertEqual(worth(x.mate()), flat(plain_mate(nested(worth(x)))))
                self.assertEqual((type(x.trace), type(x.norm)), (Ratio, Ratio))
                self.assertTrue(x + x.mate() == one.scaled(x.trace))
                self.assertTrue(x * x.mate() == one.scaled(x.norm) == x.mate() * x)
                self.assertTrue(not x * x - x.scaled(x.trace) + one.scaled(x.norm))
                self.assertTrue((x * y).mate() == y.mate() * x.mate())
                half = algebra.dimension // 2
                if half:
                    less = Doubled(algebra.squares[:-1])
                    ahead, behind = [Element(less, part, x.bottom) for part in (x.entries[:half], x.entries[half:])]
                    self.assertTrue(x.norm == ahead.norm - behind.norm * algebra.squares[-1])

    def test_inverses(self):
        chance = random.Random(56)
        for algebra in ALGEBRAS:
            for _ in range(8):
                x = any_element(chance, algebra)
                if x.norm == 0:
                    self.assert_kept(Refused, "reason", ("norm",), x.inverse)
                else:
                    self.assertTrue(x * x.inverse() == algebra.one() == x.inverse() * x)
                    self.assertEqual(gcd(x.inverse().bottom, *x.inverse().entries), 1)
        for element in (Element(Doubled((1,)), (1, 1)), Element(Doubled((4,)), (2, 1), 7), Element(EIGHT, (0,) * 8)):
            self.assert_kept(Refused, "reason", ("norm",), element.inverse)

    def test_powers(self):
        chance = random.Random(57)
        for algebra in ALGEBRAS:
            x = any_element(chance, algebra)
            for many in range(-9, 14):
                if many < 0 and x.norm == 0:
                    self.assert_kept(Refused, "reason", ("norm",), x.power, many)
                else:
                    self.assertTrue(x.power(many) == plain_power(x, many))
            self.assertTrue(x.power(5) == (x * x) * (x * (x * x)))

    def test_great_powers(self):
        for algebra in (EIGHT, Doubled((2, -3, 5, 1)), Doubled(())):
            x = Element(algebra, tuple(range(1, algebra.dimension + 1)), 3)
            self.assertTrue(x.power(1000) == x.power(500) * x.power(500))
            self.assertTrue(x.power(-1000) * x.power(999) == x.inverse())
            self.assertTrue(x.power(-1000) == x.power(1000).inverse())
            self.assertTrue(x.power(999) * x == x.power(1000))
        great = Element(SIXTEEN, (GREAT,) * 16, GREAT - 1)
        self.assertTrue(great.power(1000) * great.power(-1000) == SIXTEEN.one())

    def test_powers_with_the_norm_0(self):
        x = Element(Doubled((1,)), (1, 1))
        self.assertTrue(x.power(0) == x.algebra.one() and x.power(3) == x.scaled(4))
        self.assertTrue((x - x).power(0) == x.algebra.one() and not (x - x).power(1))
        self.assert_kept(Refused, "reason", ("norm",), x.power, -1)
        for value in NO_INTEGERS + (1001, -1001, 10 ** 99, -10 ** 99):
            self.assert_number(value, x.power, value)
            self.assert_number(value, FOUR.one().power, value)

    def test_is_ratio(self):
        chance = random.Random(58)
        for algebra in ALGEBRAS:
            for x in [any_element(chance, algebra) for _ in range(5)] + [algebra.one().scaled(7), algebra.one() * algebra.one()]:
                self.assert_same(x.is_ratio, not any(x.entries[1:]))
        self.assert_same([FOUR.one().is_ratio, (FOUR.one() - FOUR.one()).is_ratio, FOUR.units()[3].is_ratio],
                         [True, True, False])

    def test_other_algebras(self):
        one = FOUR.one()
        for other in (EIGHT.one(), Doubled((-1, 1)).one(), Doubled(()).one(), Doubled((-1, -2)).one()):
            for sign in (operator.add, operator.sub, operator.mul):
                self.assert_error(InvalidOperation, sign, one, other)
        self.assertTrue(one + Doubled((-1, -1)).one() == one.scaled(2))

    def test_operands_of_another_kind(self):
        for value in NO_RATIOS + (0, 1, -1, Ratio(1), FOUR, (1, 0, 0, 0)):
            for sign in (operator.add, operator.sub, operator.mul):
                self.assert_error(TypeError, sign, FOUR.one(), value)
                self.assert_error(TypeError, sign, value, FOUR.one())
        for sign in (operator.truediv, operator.lt, operator.pow, operator.floordiv):
            self.assert_error(TypeError, sign, FOUR.one(), FOUR.one())

    def test_operands_never_change(self):
        x = Element(FOUR, (1, 2, 3, 4), 5)
        changed = x
        changed *= x
        changed += x
        x.mate(), x.inverse(), x.power(3), x.scaled(2), -x, str(x), bool(x)
        self.assert_same((x.entries, x.bottom), ((1, 2, 3, 4), 5))


class Judged(Case, unittest.TestCase):
    def test_equal(self):
        x = Element(FOUR, (2, 0, 4, 0), 6)
        self.assert_same([x == Element(Doubled((-1, -1)), (1, 0, 2, 0), 3), x != Element(FOUR, (-1, 0, -2, 0), -3)],
                         [True, False])
        for other in (Element(FOUR, (1, 0, 2, 0)), Element(Doubled((-1, 1)), (1, 0, 2, 0), 3), -x, x.mate()):
            self.assert_same([x == other, x != other], [False, True])
        for value in (None, True, 1, Ratio(1), (1, 0, 0, 0), "1", FOUR, object(), Element):
            self.assert_same([FOUR.one() == value, FOUR.one() != value], [False, True])

    def test_bool(self):
        self.assert_same([bool(FOUR.one()), bool(FOUR.one() - FOUR.one()), bool(FOUR.units()[3])], [True, False, True])
        self.assert_same(bool(Element(Doubled((1,)), (1, 1))), True)

    def test_str(self):
        wanted = {
            (0, 0, 0, 0): "0", (1, 0, 0, 0): "1", (-1, 0, 0, 0): "-1", (0, 1, 0, 0): "e1", (0, -1, 0, 0): "-e1",
            (0, 0, 2, -1): "2e2-e3", (1, -2, 0, 1): "1-2e1+e3", (-7, 1, 1, -1): "-7+e1+e2-e3", (0, 0, 0, -12): "-12e3",
            (0, 1, 0, 11): "e1+11e3",
        }
        for entries, text in wanted.items():
            self.assert_same(str(Element(FOUR, entries)), text)
        self.assert_same([str(Element(EIGHT, (1, -2, 0, 0, 1, 0, 0, 0), 6)), str(Element(FOUR, (0, 1, 0, 0), -2))],
                         ["(1-2e1+e4)/6", "(-e1)/2"])
        self.assert_same([str(Element(FOUR, (1, 0, 0, 0), 2)), str(Element(FOUR, (2, 4, 0, 0), 2))], ["(1)/2", "1+2e1"])
        self.assert_same([str(SIXTEEN.units()[15]), str(Element(Doubled(()), (-3,), 2)), str(Doubled(()).one())],
                         ["e15", "(-3)/2", "1"])


class Brackets(Case, unittest.TestCase):
    def test_to_three_squares(self):
        chance = random.Random(59)
        for algebra in ALGEBRAS:
            for _ in range(6):
                x, y, z = [any_element(chance, algebra, 4) for _ in range(3)]
                self.assertTrue((x * y) * x == x * (y * x))
                if algebra.dimension < 16:
                    self.assertTrue((x * y).norm == x.norm * y.norm)
                    self.assertTrue(x * (x * y) == (x * x) * y and (y * x) * x == y * (x * x))
                    self.assertTrue(x * (y * (x * z)) == ((x * y) * x) * z)
                    self.assertTrue((x * y) * (y * x) == x * ((y * y) * x))
                    self.assertTrue(not associator(x, y, x * y + x.mate()))
                if algebra.dimension < 8:
                    self.assertTrue((x * y) * z == x * (y * z))
                if algebra.dimension < 4:
                    self.assertTrue(x * y == y * x)

    def test_four_squares(self):
        u = SIXTEEN.units()
        x, y = u[1] + u[10], u[4] - u[15]
        self.assertTrue(x.norm == 2 and y.norm == 2 and (x * y).norm == 0)
        self.assertFalse(x * (x * u[4]) == (x * x) * u[4])
        self.assertFalse((u[4] * x) * x == u[4] * (x * x))
        chance = random.Random(60)
        failed = 0
        for _ in range(10):
            x, y, z = [any_element(chance, SIXTEEN) for _ in range(3)]
            failed = failed + int(x * (y * (x * z)) != ((x * y) * x) * z)
        self.assertGreater(failed, 0)

    def test_associator(self):
        chance = random.Random(61)
        for algebra in ALGEBRAS:
            x, y, z = [any_element(chance, algebra) for _ in range(3)]
            told = associator(x, y, z)
            self.assertIs(type(told), Element)
            self.assertTrue(told == (x * y) * z - x * (y * z))
        one, e = FOUR.one(), EIGHT.one()
        for value in NO_ELEMENTS:
            self.assert_error(InvalidElement, associator, value, one, one)
            self.assert_error(InvalidElement, associator, one, value, one)
            self.assert_error(InvalidElement, associator, one, one, value)
        for values in ((one, e, one), (one, one, e), (e, one, one), (one, e, e), (Doubled((-1, 1)).one(), one, one)):
            self.assert_error(InvalidElement, associator, *values)


def solved_two(a, b, most=40):
    """Whether a x x + b y y is a square for some small integers that are not both 0."""
    for x in range(most):
        for y in range(most):
            total = a * x * x + b * y * y
            if (x or y) and total >= 0 and isqrt(total) ** 2 == total:
                return True
    return False


class Noughts(Case, unittest.TestCase):
    def assert_pair(self, algebra, exists):
        told = nought_pair(algebra)
        if not exists:
            self.assertIsNone(told, algebra)
            return
        self.assertIs(type(told), tuple)
        one, other = told
        self.assertTrue(one and other and not one * other)
        self.assertTrue(one.algebra == algebra and other.algebra == algebra)
        self.assertLess(max([abs(entry) for entry in one.entries + other.entries + (one.bottom, other.bottom)]), 10 ** 60)
        self.assert_same(is_nought_pair(algebra, told), True)

    def test_no_square_and_one(self):
        self.assertIsNone(nought_pair(Doubled(())))
        for square in range(-30, 31):
            if square:
                self.assert_pair(Doubled((square,)), square in (1, 4, 9, 16, 25))

    def test_two_squares(self):
        box = [square for square in range(-30, 31) if square]
        for one in box:
            for other in box:
                if other >= one or (one + other) % 3 == 0:
                    self.assert_pair(Doubled((one, other)), solved_two(one, other))

    def test_three_squares(self):
        chance = random.Random(62)
        box = [square for square in range(-30, 31) if square]
        tried = [tuple([chance.choice(box) for _ in range(3)]) for _ in range(400)]
        tried = tried + [(19, 19, -26), (-23, 23, -23), (29, 29, 29), (-30, -30, 30), (30, -29, -29), (-1, -1, 7)]
        tried = tried + [tuple([-abs(square) for square in squares]) for squares in tried[:40]]
        for squares in tried:
            self.assert_pair(Doubled(squares), max(squares) > 0)

    def test_four_squares(self):
        self.assert_pair(SIXTEEN, True)
        for squares in ((-1, -1, -1, 1), (1, 1, 1, 1), (-1, -1, -1, -2), (30, 1, 1, 1), (-1, 2, -1, -1)):
            self.assert_error(InvalidOperation, nought_pair, Doubled(squares))

    def test_errors(self):
        for value in NO_ALGEBRAS:
            self.assert_error(InvalidAlgebra, nought_pair, value)
            self.assert_error(InvalidAlgebra, is_nought_pair, value, (FOUR.one(), FOUR.one()))
        for squares in ((31,), (-31,), (1, 31), (-1, -1, -1000000), (31, 1, 1), (-1, -1, -1, 31), (31, 2, 3, 4)):
            self.assert_kept(TooMany, "most", 30, nought_pair, Doubled(squares))

    def test_right_pairs(self):
        great = Doubled((1000000, -7, 5))
        one, other = Element(great, (1000, 1) + (0,) * 6), Element(great, (1000, -1) + (0,) * 6)
        self.assert_same([is_nought_pair(great, (one, other)), is_nought_pair(great, (other, one))], [True, True])
        x = Element(great, (GREAT, 3, 5, 7, 1, 1, 2, GREAT), 7)
        for _ in range(3):
            x = x * x
        self.assert_same(is_nought_pair(great, (x * one, other)), not (x * one) * other)
        self.assert_same(is_nought_pair(great, (one, other * x)), True)
        self.assertGreater(max(map(abs, (other * x).entries)), 10 ** 200)
        u = SIXTEEN.units()
        self.assert_same(is_nought_pair(SIXTEEN, ((u[1] + u[10]).scaled(Ratio(7, 3)), (u[4] - u[15]).scaled(-5))), True)

    def test_values_near_right_pairs(self):
        algebra = Doubled((1,))
        one, other = Element(algebra, (1, 1)), Element(algebra, (1, -1))
        nought = one - one
        wrong = NO_ELEMENTS + (
            (one, one), (one, nought), (nought, one), (nought, nought), [one, other], (one,), (one, other, other),
            (one, (other,)), (one, None), (one, 1), (None, None), (1, 0), {0: one}, one, (one, Element(FOUR, (0,) * 4)),
            (Element(Doubled((4,)), (2, 1)), Element(Doubled((4,)), (2, -1))), ((one, other),), (one, True),
        )
        for value in wrong:
            self.assert_same(is_nought_pair(algebra, value), False)
        self.assert_same([is_nought_pair(algebra, (one, other)), is_nought_pair(Doubled((1, 1)), (one, other))],
                         [True, False])
        u = SIXTEEN.units()
        self.assert_same([is_nought_pair(SIXTEEN, (u[1] + u[10], u[4] + u[15])), is_nought_pair(SIXTEEN, (u[1], u[10])),
                          is_nought_pair(SIXTEEN, (u[1] - u[10], u[4] - u[15]))], [False, False, False])


class NotTrue(Case, unittest.TestCase):
    def test_no_norm_0_and_still_a_pair(self):
        self.assert_same([SIXTEEN.is_definite, nought_pair(SIXTEEN) is None], [True, False])

    def test_products_of_eights_need_brackets(self):
        units = EIGHT.units()
        self.assertTrue(associator(units[1], units[2], units[4]))

    def test_the_squares_of_units_are_others(self):
        units = Doubled((2, 3)).units()
        self.assertTrue(units[3] * units[3] == units[0].scaled(-6))

    def test_the_norm_of_a_sum(self):
        one = FOUR.one()
        self.assertFalse((one + one).norm == one.norm + one.norm)

    def test_example(self):
        units = EIGHT.units()
        self.assertEqual(
            [str(units[1] * units[2]), str(units[2] * units[1]), str((units[1] * units[2]) * units[4]),
             str(units[1] * (units[2] * units[4])), str(associator(units[1], units[2], units[4]))],
            ["e3", "-e3", "e7", "-e7", "2e7"])
        x, y = Element(EIGHT, (1, 2, 0, 0, 1, 0, 0, 0)), Element(EIGHT, (0, 1, 1, 0, 0, 0, 0, 1))
        self.assertEqual(
            [str(x * y), x.norm == 6, y.norm == 3, (x * y).norm == 18, str(x.inverse()), x.trace == 2,
             str((x * x).scaled(Ratio(1, 2)))],
            ["-2+e1+e2+3e3-e5+e6+e7", True, True, True, "(1-2e1-e4)/6", True, "-2+2e1+e4"])
        self.assertEqual(
            [FOUR.dimension, OTHER.is_definite, str(Doubled(())), str(Doubled((-1, -1, 2))),
             str(Doubled((-1, -1, 2)).units()[4].power(2))],
            [4, False, "ratios", "doubled by -1 -1 2", "2"])
        one = Doubled((1,))
        self.assertEqual(
            [nought_pair(EIGHT), nought_pair(Doubled((2, 3))),
             is_nought_pair(one, (Element(one, (1, 1)), Element(one, (1, -1))))],
            [None, None, True])
        u = SIXTEEN.units()
        self.assertEqual(
            [is_nought_pair(SIXTEEN, (u[1] + u[10], u[4] - u[15])), is_nought_pair(SIXTEEN, (u[1], u[10])),
             str((u[1] + u[10]) * ((u[1] + u[10]) * u[4]))],
            [True, False, "-2e4-2e15"])


if __name__ == "__main__":
    unittest.main()
