"""[14.1] to [14.7] and [0.16]: whole eights."""

import operator
import random
import unittest
from fractions import Fraction
from itertools import combinations, product

from squaretimes.base.ratios import Ratio
from squaretimes.double.doubled import Doubled, Element
from squaretimes.errors import InvalidElement, InvalidOperation, TooMany
from squaretimes.square.sums import whole_squares
from squaretimes.whole import eights
from squaretimes.whole.eights import (
    MAX_COUNTED, MAX_LISTED, WholeOrder, divided, factors, ideal_number, ideal_paper, is_divided, is_factors,
    is_ideal_paper, is_of_kirmse, is_primitive_in, kirmse_pair, left_factors,
)
from tests.helper import NO_INTEGERS, NO_RATIOS, TOO_GREAT, Case, fraction

EIGHT = Doubled((-1, -1, -1))
UNITS = EIGHT.units()
ONE, I, J = UNITS[:3]
ORDERS = [WholeOrder(at) for at in range(1, 8)]
ORDER = ORDERS[0]
HALF, TURN = Element(EIGHT, (1, 1, 1, 1, 0, 0, 0, 0), 2), Element(EIGHT, (1, 1, 0, 0, 1, 1, 0, 0), 2)
LINES = ({1, 2, 3}, {1, 4, 5}, {1, 6, 7}, {2, 4, 6}, {2, 5, 7}, {3, 4, 7}, {3, 5, 6})
KIRMSE = [set(), set(range(8))] + [line | {0} for line in LINES] + [set(range(1, 8)) - line for line in LINES]
NO_ORDERS = NO_RATIOS + (ONE, EIGHT, (ORDER,), 8, "whole order 1")
NO_ELEMENTS = NO_RATIOS + (
    EIGHT, ORDER, (ONE,), ONE.entries, Doubled((-1, -1)).one(), Doubled((-1, -1, 1)).one(), Doubled(()).one(),
    Doubled((-1, -1, -1, -1)).one(), ONE.scaled(Ratio(1, 2)), ONE.scaled(Ratio(1, 3)), ONE.scaled(Ratio(1, 4)),
    HALF + ONE.scaled(Ratio(1, 2)), HALF.scaled(Ratio(1, 2)), HALF.scaled(Ratio(2, 3)),
)


def words(at):
    """By [14.1]; those of Kirmse for 0."""
    swapped = {0: at, at: 0}
    return [{swapped.get(index, index) for index in word} for word in KIRMSE]


def is_whole(at, element):
    """By [14.2]."""
    assert len(element.entries) == 8 and element.algebra == EIGHT
    twice = [Fraction(2 * entry, element.bottom) for entry in element.entries]
    if any(entry.denominator != 1 for entry in twice):
        return False
    return {index for index, entry in enumerate(twice) if entry % 2 == 1} in words(at)


def of_halves(twice):
    return Element(EIGHT, tuple(twice), 2)


def twice_of(element):
    return tuple([2 * entry // element.bottom for entry in element.entries])


def any_whole(chance, order, most):
    """An element of the order, straight from its words."""
    word = chance.choice(words(order.at))
    return of_halves([2 * chance.randrange(-most, most + 1) + (index in word) for index in range(8)])


def any_other(chance, order, most):
    """Such an element other than 0."""
    element = any_whole(chance, order, most)
    return element if element else any_other(chance, order, most)


def any_primitive(chance, order, most):
    while True:
        element = any_other(chance, order, most)
        if is_primitive(order, element):
            return element


def is_primitive(order, element):
    """By [14.5], by trying all integers."""
    twice = twice_of(element)
    bound = max(map(abs, twice))
    return not any(
        all(entry % m == 0 for entry in twice) and is_whole(order.at, of_halves([entry // m for entry in twice]))
        for m in range(2, bound + 1)
    )


def whole_norm(element):
    norm = fraction(element.norm)
    assert norm.denominator == 1
    return norm.numerator


def added(element, value):
    """The sum of the products that a paper tells."""
    total = ONE.scaled(0)
    for x, y, w in value:
        total = total + x * (y * (w * element))
    return total


class Orders(Case, unittest.TestCase):
    def test_constants(self):
        self.assert_same([MAX_LISTED, MAX_COUNTED], [2, 10 ** 6])

    def test_lines(self):
        for line in LINES:
            a, b, c = sorted(line)
            self.assertIn(UNITS[a] * UNITS[b], (UNITS[c], -UNITS[c]))
        self.assertEqual(len({frozenset(line) for line in LINES}), 7)

    def test_index(self):
        for at in range(1, 8):
            self.assert_same([WholeOrder(at).at, str(WholeOrder(at))], [at, f"whole order {at}"])
        for value in NO_INTEGERS + (0, 8, -1, 10 ** 70, TOO_GREAT):
            if value != 1 or value is True:
                self.assert_number(value, WholeOrder, value)

    def test_halves_at_all_sets_of_indices(self):
        for word in product((0, 1), repeat=8):
            element = of_halves(word)
            odd = {index for index in range(8) if word[index]}
            for order in ORDERS:
                self.assertIs(element in order, odd in words(order.at))
            self.assertIs(is_of_kirmse(element), odd in KIRMSE)

    def test_other_elements(self):
        chance = random.Random(141)
        for order in ORDERS:
            for _ in range(40):
                element = any_whole(chance, order, 10 ** chance.randrange(1, 58))
                self.assertIs(element in order, True)
                self.assertIs(element.scaled(Ratio(1, 3)) in order, is_whole(order.at, element.scaled(Ratio(1, 3))))
                whole = Element(EIGHT, tuple([chance.randrange(-9, 10) for _ in range(8)]))
                self.assertIs(whole in order, True)
                for near in (element + of_halves([int(at == 3) for at in range(8)]), element + whole,
                             element + of_halves((1, 1, 0, 0, 0, 0, 0, 0)), element.scaled(Ratio(1, 2))):
                    self.assertIs(near in order, is_whole(order.at, near))
        for element in (ONE.scaled(Ratio(1, 3)), HALF.scaled(Ratio(1, 3)), ONE.scaled(Ratio(1, 4)), HALF + ONE.scaled(0)):
            self.assertIs(element in ORDER, element == HALF)
        long = HALF.scaled(Ratio(10 ** 59)).scaled(10 ** 59)
        self.assertIs(long in ORDER, True)

    def test_values_of_other_kinds(self):
        for order in ORDERS:
            for value in NO_ELEMENTS:
                self.assertIs(value in order, False)
                self.assertIs(value not in order, True)

    def test_sums_products_and_mates_stay_in_the_order(self):
        chance = random.Random(142)
        for order in ORDERS:
            for one, other in product(order.basis(), repeat=2):
                self.assertTrue(is_whole(order.at, one * other))
            for _ in range(30):
                one, other = any_whole(chance, order, 50), any_whole(chance, order, 50)
                for made in (one + other, one - other, one * other, one.mate(), -one):
                    self.assertTrue(is_whole(order.at, made))
                    self.assertIs(made in order, True)
                self.assertEqual(fraction(one.norm).denominator, 1)
                self.assertEqual(fraction(one.trace).denominator, 1)

    def test_the_orders_are_different(self):
        for one, other in combinations(ORDERS, 2):
            self.assertTrue([element for element in one.units() if element not in other])

    def test_equal(self):
        for order in ORDERS:
            for value in NO_ORDERS + tuple(ORDERS):
                right = isinstance(value, WholeOrder) and value.at == order.at
                self.assert_same([order == value, order != value], [right, not right])
        self.assertTrue(WholeOrder(3) == WholeOrder(3))

    def test_basis(self):
        for order in ORDERS:
            basis = order.basis()
            self.assertIs(type(basis), tuple)
            self.assertEqual([len(basis), list(order), tuple(order)], [8, list(basis), basis])
            self.assertTrue(all(is_whole(order.at, element) for element in basis))
            # Twice their entries have the determinant of a lattice with 16 of the 256 rests by 2.
            self.assertEqual(abs(plain_determinant([list(twice_of(element)) for element in basis])), 16)

    def test_it_never_changes(self):
        order = WholeOrder(2)
        self.assertRaises(AttributeError, setattr, order, "at", 3)
        order.units(), order.basis(), list(order), str(order), ONE in order
        self.assert_same([order.at, order.basis() == WholeOrder(2).basis()], [2, True])
        self.assertRaises(TypeError, operator.getitem, order, 0)
        self.assertRaises(TypeError, len, order)

    def test_all_is_defined_in_the_class_itself(self):
        names = ("at", "basis", "units", "of_norm", "count_of_norm", "__contains__", "__iter__", "__eq__", "__str__")
        for name in names:
            self.assertIn(name, vars(WholeOrder))
        for one in (WholeOrder, divided, factors, ideal_number, ideal_paper, is_divided, is_factors, is_ideal_paper,
                    is_of_kirmse, is_primitive_in, kirmse_pair, left_factors):
            self.assertEqual(one.__module__, eights.__name__)


def plain_determinant(rows):
    """The determinant of rows of integers."""
    rows = [[Fraction(entry) for entry in row] for row in rows]
    total = Fraction(1)
    for at in range(len(rows)):
        found = [place for place in range(at, len(rows)) if rows[place][at]]
        if not found:
            return 0
        if found[0] != at:
            rows[at], rows[found[0]] = rows[found[0]], rows[at]
            total = -total
        total *= rows[at][at]
        for place in range(at + 1, len(rows)):
            factor = rows[place][at] / rows[at][at]
            rows[place] = [one - factor * other for one, other in zip(rows[place], rows[at])]
    return total


class Norms(Case, unittest.TestCase):
    def test_units_and_the_norm_2(self):
        for order in ORDERS:
            for norm, many in ((1, 240), (2, 2160)):
                found = order.of_norm(norm)
                self.assertIs(type(found), tuple)
                self.assertEqual(len(found), many)
                rows = [twice_of(element) for element in found]
                self.assertEqual(rows, sorted(set(rows)))
                self.assertEqual({sum([entry * entry for entry in row]) for row in rows}, {4 * norm})
                self.assertTrue(all({at for at in range(8) if row[at] % 2} in words(order.at) for row in rows))
                self.assertTrue(all(type(element) is Element and element.algebra == EIGHT for element in found))
            self.assertTrue(order.units() == order.of_norm(1))

    def test_counts(self):
        for norm in list(range(1, 200)) + [10 ** 5, 999983, 10 ** 6 - 1, 10 ** 6, 720720]:
            wanted = 240 * sum([divisor ** 3 for divisor in range(1, norm + 1) if norm % divisor == 0])
            self.assert_same(ORDER.count_of_norm(norm), wanted)
        self.assert_same([order.count_of_norm(2) for order in ORDERS], [2160] * 7)

    def test_wrong_norms(self):
        for value in NO_INTEGERS + (0, -1, 10 ** 6 + 1, 10 ** 59, 10 ** 70):
            self.assert_number(value, ORDER.count_of_norm, value)
            self.assert_number(value, ORDER.of_norm, value)
        for value in (3, 4, 10 ** 6):
            self.assert_number(value, ORDER.of_norm, value)


class Division(Case, unittest.TestCase):
    def judge(self, order, one, other, ahead):
        told = divided(order, one, other, ahead=ahead)
        self.assertEqual([type(told), len(told)], [tuple, 2])
        quotient, rest = told
        self.assertTrue(is_whole(order.at, quotient) and is_whole(order.at, rest))
        self.assertTrue((other * quotient if ahead else quotient * other) + rest == one)
        self.assertLessEqual(2 * whole_norm(rest), whole_norm(other))
        self.assertIs(is_divided(order, one, other, told, ahead=ahead), True)
        return quotient, rest

    def test_both_sides(self):
        chance = random.Random(143)
        for order in ORDERS:
            for most, less in ((1, 1), (3, 2), (50, 3), (10 ** 6, 100), (10 ** 40, 10 ** 10), (10 ** 40, 10 ** 40),
                               (10 ** 3, 10 ** 40)):
                for _ in range(6):
                    one, other = any_whole(chance, order, most), any_other(chance, order, less)
                    for ahead in (False, True):
                        quotient, rest = self.judge(order, one, other, ahead)
                        self.assertTrue(all(abs(entry) < TOO_GREAT for entry in quotient.entries + rest.entries))

    def test_all_rests_of_small_divisors(self):
        for order in ORDERS:
            for other in (ONE.scaled(2), ONE + I, order.basis()[0].scaled(3), ONE.scaled(2) + I):
                for entries in product((0, 1), repeat=8):
                    self.judge(order, Element(EIGHT, entries), other, entries[0] == 1)

    def test_the_side_counts(self):
        # For a norm of 1 or less of the rest the quotients of both sides are unlike.
        one, other = J, ONE + I
        found = [divided(ORDER, (I + J) * TURN, other + J, ahead=ahead) for ahead in (False, True)]
        for ahead in (False, True):
            self.assertIs(is_divided(ORDER, (I + J) * TURN, other + J, found[ahead], ahead=ahead), True)
        self.assertTrue(divided(ORDER, one * other, other)[0] == one)
        self.assertTrue(divided(ORDER, other * one, other, ahead=True)[0] == one)
        self.assertIs(is_divided(ORDER, one * other, other, (one, ONE.scaled(0))), True)
        self.assertIs(is_divided(ORDER, one * other, other, (one, ONE.scaled(0)), ahead=True), False)
        self.assertIs(is_divided(ORDER, other * one, other, (one, ONE.scaled(0)), ahead=True), True)
        self.assertIs(is_divided(ORDER, other * one, other, (one, ONE.scaled(0)), ahead=False), False)

    def test_pairs_near_right_ones(self):
        chance = random.Random(144)
        for order in ORDERS:
            for _ in range(12):
                one, other = any_whole(chance, order, 9), any_other(chance, order, 2)
                ahead = chance.choice((True, False))
                quotient, rest = divided(order, one, other, ahead=ahead)
                for step in chance.sample(order.units(), 20) + [ONE.scaled(0)]:
                    more = quotient + step
                    left = one - (other * more if ahead else more * other)
                    right = 2 * whole_norm(left) <= whole_norm(other)
                    self.assertIs(is_divided(order, one, other, (more, left), ahead=ahead), right)
                    if step:
                        self.assertIs(is_divided(order, one, other, (more, rest), ahead=ahead), False)
                        self.assertIs(is_divided(order, one, other, (quotient, rest + step), ahead=ahead), False)
                half = quotient + ONE.scaled(Ratio(1, 2))
                wrong = NO_ELEMENTS + (
                    quotient, (quotient,), [quotient, rest], (quotient, rest, rest), (quotient, None), (0, rest),
                    (half, one - (other * half if ahead else half * other)), (quotient.entries, rest.entries),
                )
                for value in wrong:
                    self.assertIs(is_divided(order, one, other, value, ahead=ahead), False)

    def test_several_right_pairs(self):
        # 1 divided by 1 + e1: the norm of a rest can be 1, and several quotients leave one like this.
        right = [
            quotient for quotient in ORDER.units()
            if is_divided(ORDER, ONE, ONE + I, (quotient, ONE - quotient * (ONE + I)))
        ]
        self.assertGreater(len(right), 2)

    def test_errors(self):
        for value in NO_ORDERS:
            self.assert_error(InvalidOperation, divided, value, None, None)
            self.assert_error(InvalidOperation, is_divided, value, None, None, None, ahead=None)
        for value in NO_ELEMENTS:
            for call in (divided, lambda *given, **named: is_divided(*given, None, **named)):
                self.assert_error(InvalidElement, call, ORDER, value, None, ahead=None)
                self.assert_error(InvalidElement, call, ORDER, ONE, value, ahead=None)
        nothing = ONE.scaled(0)
        for call in (divided, lambda *given, **named: is_divided(*given, None, **named)):
            self.assert_error(InvalidOperation, call, ORDER, ONE, nothing)
            self.assert_error(InvalidElement, call, ORDER, HALF.scaled(Ratio(1, 2)), nothing)
            for value in NO_RATIOS + (0, 1, 2):
                if not isinstance(value, bool):
                    self.assert_error(InvalidOperation, call, ORDER, ONE, ONE, ahead=value)
        self.assert_error(TypeError, divided, ORDER, ONE, ONE, True)
        self.assertEqual(divided(ORDER, nothing, I), (nothing, nothing))
        self.assert_error(InvalidElement, divided, WholeOrder(4), HALF, ONE)


class Factors(Case, unittest.TestCase):
    def test_is_primitive_in(self):
        chance = random.Random(145)
        for order in ORDERS:
            for _ in range(25):
                element = any_other(chance, order, 4)
                self.assertIs(is_primitive_in(order, element), is_primitive(order, element))
                for many in (2, 3, 4, 6, 35):
                    self.assertIs(is_primitive_in(order, element.scaled(many)), False)
                    self.assertIs(is_primitive_in(order, element.scaled(-many)), False)
            word = max(words(order.at), key=lambda one: len(one) == 4)
            self.assertIs(is_primitive_in(order, of_halves([2 * (at in word) for at in range(8)])), False)
            other = next(of_halves([2 * (at in (0, 1, 2, spot)) for at in range(8)]) for spot in range(3, 8)
                         if {0, 1, 2, spot} not in words(order.at))
            self.assertIs(is_primitive_in(order, other), True)
            for value in NO_ELEMENTS + (ONE.scaled(0),):
                self.assertIs(is_primitive_in(order, value), False)
        for value in NO_ORDERS:
            self.assert_error(InvalidOperation, is_primitive_in, value, ONE)
        self.assertIs(is_primitive_in(ORDER, ONE.scaled(10 ** 59).scaled(10 ** 59) + I), True)
        self.assertIs(is_primitive_in(WholeOrder(4), HALF.scaled(2)), True)

    def judge(self, order, element, norm):
        told = factors(order, element, norm)
        self.assertEqual([type(told), len(told)], [tuple, 2])
        x, y = told
        self.assertTrue(is_whole(order.at, x) and is_whole(order.at, y))
        self.assertEqual([x * y == element, whole_norm(x)], [True, norm])
        self.assertIs(is_factors(order, element, norm, told), True)
        return told

    def norms(self, element):
        whole = whole_norm(element)
        return [norm for norm in range(1, whole + 1) if whole % norm == 0 and coprime(norm, whole // norm)]

    def test_small_and_great_norms(self):
        chance = random.Random(146)
        for order in ORDERS:
            for most in (1, 2, 5, 20, 80):
                for _ in range(3):
                    element = any_primitive(chance, order, most)
                    if whole_norm(element) <= 10 ** 6:
                        for norm in self.norms(element):
                            self.judge(order, element, norm)

    def test_the_greatest_norm(self):
        def with_norm(number):
            """A primitive element of this norm."""
            for less in product((0, 1), repeat=4):
                entries = less + whole_squares(number - sum(less), 4)
                if is_primitive(ORDER, Element(EIGHT, entries)):
                    return Element(EIGHT, entries)
        great = with_norm(10 ** 6 + 1)
        self.assert_kept(TooMany, "most", 10 ** 6, factors, ORDER, great, 1)
        self.assert_kept(TooMany, "most", 10 ** 6, is_factors, ORDER, great, 101, None)
        self.assert_error(InvalidOperation, factors, ORDER, great, 2)
        for number, norms in ((10 ** 6, (1, 64, 5 ** 6, 10 ** 6)), (10 ** 6 - 1, (27, 37, 999999 // 11))):
            for norm in norms:
                self.judge(ORDER, with_norm(number), norm)

    def test_pairs_near_right_ones(self):
        chance = random.Random(148)
        for order in ORDERS:
            element = any_primitive(chance, order, 2)
            for norm in self.norms(element):
                x, y = factors(order, element, norm)
                wrong = NO_ELEMENTS + (
                    x, (x,), [x, y], (x, y, y), (x, -y), (-x, y), (x, None), (1, y), (x.scaled(2), y),
                    (x.scaled(2), y.scaled(Ratio(1, 2))), (x, y.mate() + ONE),
                )
                for value in wrong:
                    self.assertIs(is_factors(order, element, norm, value), False)
                self.assertIs(is_factors(order, element, norm, (-x, -y)), True)
                swapped = y * x == element and whole_norm(y) == norm
                self.assertIs(is_factors(order, element, norm, (y, x)), swapped)
                for unit in chance.sample(order.units(), 12):
                    first, last = x * unit, unit.mate() * y
                    self.assertIs(is_factors(order, element, norm, (first, last)), first * last == element)

    def test_left_factors(self):
        chance = random.Random(149)
        for order in ORDERS[:3] + ORDERS[6:]:
            while True:
                element = any_primitive(chance, order, 3)
                if whole_norm(element) % 4 == 2:
                    break
            for norm in (1, 2):
                told = left_factors(order, element, norm)
                self.assertIs(type(told), tuple)
                rows = [twice_of(x) for x in told]
                self.assertEqual([len(told), rows], [240, sorted(set(rows))])
                for x in told[::7]:
                    y = (x.mate() * element).scaled(Ratio(1, norm))
                    self.assertIs(is_factors(order, element, norm, (x, y)), True)
            self.assertTrue(left_factors(order, element, 1) == order.units())
            right = [x for x in order.of_norm(2) if is_whole(order.at, (x.mate() * element).scaled(Ratio(1, 2)))]
            self.assertTrue(left_factors(order, element, 2) == tuple(right))
            if whole_norm(element) == 2:
                self.assertIn(element, right)

    def test_errors_in_their_sequence(self):
        even = (ONE + I) * (ONE + I + J)
        calls = (factors, left_factors, lambda *given: is_factors(*given, None))
        for call in calls:
            for value in NO_ORDERS:
                self.assert_error(InvalidOperation, call, value, None, None)
            for value in NO_ELEMENTS + (ONE.scaled(0), ONE.scaled(2), HALF.scaled(2), even.scaled(-3)):
                self.assert_error(InvalidElement, call, ORDER, value, None)
            for value in NO_INTEGERS + (0, -1, -2, TOO_GREAT, 10 ** 70):
                self.assert_number(value, call, ORDER, even, value)
            for value in (4, 5, 12, 7, 10 ** 59):
                self.assert_error(InvalidOperation, call, ORDER, even, value)
            four = ONE + I + J + UNITS[4]
            self.assertEqual([whole_norm(four), is_primitive_in(ORDER, four)], [4, True])
            self.assert_error(InvalidOperation, call, ORDER, four, 2)
            great = ONE.scaled(1000) + I
            self.assert_error(InvalidOperation, call, ORDER, great, 3)
            self.assert_kept(TooMany, "most", 10 ** 6, call, ORDER, great, 1)
            self.assert_kept(TooMany, "most", 10 ** 6, call, ORDER, great, 10 ** 6 + 1)
        self.assert_kept(TooMany, "most", 2, left_factors, ORDER, even, 3)
        self.assert_kept(TooMany, "most", 2, left_factors, ORDER, even, 6)
        self.assertEqual(len(left_factors(ORDER, even, 2)), 240)


def coprime(one, other):
    while other:
        one, other = other, one % other
    return one == 1


class Ideals(Case, unittest.TestCase):
    def test_numbers(self):
        chance = random.Random(150)
        for order in ORDERS:
            for _ in range(12):
                some = [any_primitive(chance, order, 3) for _ in range(chance.randrange(1, 5))]
                factors_of = [chance.choice((0, 1, 2, 6, -15, 10, 12)) for _ in some]
                total = 0
                for factor in factors_of:
                    while factor:
                        total, factor = factor, total % factor
                lot = tuple([one.scaled(factor) for one, factor in zip(some, factors_of)])
                if total:
                    self.assert_same(ideal_number(order, lot), abs(total))
                else:
                    self.assert_error(InvalidElement, ideal_number, order, lot)
        self.assert_same(ideal_number(ORDER, (ONE.scaled(0),) * 99 + (HALF.scaled(7),)), 7)
        self.assert_same(ideal_number(ORDER, (HALF.scaled(10 ** 59), HALF.scaled(10 ** 59 + 10))), 10)
        self.assert_same([ideal_number(WholeOrder(at), (HALF.scaled(2),)) for at in (1, 4)], [2, 1])

    def test_number_errors(self):
        for value in NO_ORDERS:
            self.assert_error(InvalidOperation, ideal_number, value, None)
        wrong = NO_ELEMENTS + (
            ONE, [ONE], (), (ONE.scaled(0),), (ONE.scaled(0),) * 5, (ONE,) * 101, (ONE, None), (1,), {0: ONE},
            (HALF, HALF.scaled(Ratio(1, 2))), ((ONE,),), (ONE, Doubled((-1, -1)).one()),
        )
        for value in wrong:
            if value != (ONE,):
                self.assert_error(InvalidElement, ideal_number, ORDER, value)
        self.assert_same(ideal_number(ORDER, (ONE,) * 100), 1)
        self.assert_error(InvalidElement, ideal_number, WholeOrder(4), (HALF,))

    def judge(self, order, element):
        told = ideal_paper(order, element)
        self.assertIs(type(told), tuple)
        self.assertLessEqual(len(told), 600)
        for triple in told:
            self.assertEqual([type(triple), len(triple)], [tuple, 3])
            self.assertTrue(all(is_whole(order.at, member) for member in triple))
            if whole_norm(element) <= 10 ** 50:
                self.assertTrue(all(abs(entry) < TOO_GREAT for member in triple for entry in member.entries))
        self.assertTrue(added(element, told) == ONE.scaled(ideal_number(order, (element,))))
        self.assertIs(is_ideal_paper(order, element, told), True)
        return told

    def test_papers(self):
        chance = random.Random(151)
        for order in ORDERS:
            for most in (1, 2, 9, 10 ** 5, 10 ** 24):
                element = any_other(chance, order, most)
                self.judge(order, element)
                self.judge(order, element.scaled(chance.randrange(2, 40)))
        for element in order.units()[:5] + order.of_norm(2)[:5]:
            self.judge(order, element)

    def test_papers_of_powers(self):
        # The norms of these are powers of one small prime.
        for element in (ONE + I, ONE + I + J, ONE.scaled(2) + I, I + J + UNITS[4] + UNITS[7] + ONE):
            for many in (2, 5, 17, 30):
                self.judge(ORDER, element.power(many))

    def test_long_integers(self):
        chance = random.Random(152)
        for most in (10 ** 26, 10 ** 58):
            told = self.judge(ORDER, any_other(chance, ORDER, most))
            self.assertIs(is_ideal_paper(ORDER, ONE, told), False)
        long = ONE.scaled(10 ** 59).scaled(10 ** 59) + I
        self.judge(ORDER, long)
        self.assertIs(is_ideal_paper(ORDER, long.scaled(7), ideal_paper(ORDER, long.scaled(7))), True)
        longer = HALF.scaled(10 ** 59).scaled(10 ** 59)
        self.assert_same(ideal_number(ORDER, (longer,)), 10 ** 118)
        self.assertIs(is_ideal_paper(ORDER, longer, ideal_paper(ORDER, longer)), True)

    def test_values_near_papers(self):
        chance = random.Random(153)
        for order in ORDERS:
            element = any_primitive(chance, order, 3)
            told = ideal_paper(order, element)
            many = ideal_number(order, (element.scaled(6),))
            self.assertEqual(many, 6)
            self.assertIs(is_ideal_paper(order, element.scaled(6), told), True)
            x, y, w = told[0]
            wrong = NO_ELEMENTS + (
                list(told), told[1:], told + told[:1], told[:-1] + (list(told[-1]),), told[:-1] + (told[-1][:2],),
                told[:-1] + (told[-1] + (ONE,),), told + ((ONE, ONE, None),), told + ((ONE, ONE, 0),), told[0], (),
                ((x, y, w + ONE),) + told[1:], ((-x, y, w),) + told[1:], told + (ONE,), (told,),
                ((x.scaled(Ratio(1, 2)), y, w),) * 2 + told[1:],
            )
            for value in wrong:
                right = isinstance(value, tuple) and value != () and all(
                    isinstance(triple, tuple) and len(triple) == 3 and all(member in order for member in triple)
                    for triple in value) and added(element, value) == ONE
                self.assertIs(is_ideal_paper(order, element, value), right)
            split = ((x + y, y, w), (-y, y, w)) + told[1:]
            self.assertIs(is_ideal_paper(order, element, split), True)

    def test_longer_papers(self):
        for element in (HALF, ONE + I):
            told = ideal_paper(ORDER, element)
            many = 1400 // len(told)
            longer = told * many + tuple([(x.scaled(1 - many), y, w) for x, y, w in told])
            self.assertGreater(len(longer), 1000)
            self.assertIs(is_ideal_paper(ORDER, element, longer), True)
            self.assertIs(is_ideal_paper(ORDER, element, longer + told), False)
            self.assertIs(is_ideal_paper(ORDER, element, longer[1:]), added(element, told[:1]) == ONE.scaled(0))

    def test_paper_errors(self):
        for call in (ideal_paper, lambda *given: is_ideal_paper(*given, ())):
            for value in NO_ORDERS:
                self.assert_error(InvalidOperation, call, value, None)
            for value in NO_ELEMENTS + (ONE.scaled(0),):
                self.assert_error(InvalidElement, call, ORDER, value)
        self.assert_error(InvalidElement, ideal_paper, WholeOrder(4), HALF)

    def test_sums_of_shorter_products(self):
        # [14.7]: the norm of 1 + e1 is 2 and its trace 2; that of 1 + e1 + e2 is 3, its trace 2.
        for element in (ONE + I, ONE + I + J):
            products = [one * element for one in ORDER.basis()]
            self.assertFalse(spans(ORDER, products, ONE))
        both = [one * (other * (ONE + I + J)) for one in ORDER.basis() for other in ORDER.basis()]
        self.assertFalse(spans(ORDER, both, ONE))
        self.assertTrue(spans(ORDER, [one * more for one in ORDER.basis() for more in both], ONE))


def spans(order, some, wanted):
    """Whether an element is a sum of integer multiples of some."""
    rows = [list(twice_of(one)) for one in some]
    left = list(twice_of(wanted))
    for at in range(8):
        while True:
            live = sorted([row for row in rows if row[at]], key=lambda row: abs(row[at]))
            if len(live) < 2:
                break
            leader = live[0]
            for row in live[1:]:
                factor = row[at] // leader[at]
                row[:] = [one - factor * other for one, other in zip(row, leader)]
        if live:
            factor, rest = divmod(left[at], live[0][at])
            if rest:
                return False
            left = [one - factor * other for one, other in zip(left, live[0])]
            rows.remove(live[0])
        elif left[at]:
            return False
    return not any(left)


class Kirmse(Case, unittest.TestCase):
    def test_is_of_kirmse(self):
        chance = random.Random(154)
        for _ in range(200):
            word = chance.choice(KIRMSE)
            element = of_halves([2 * chance.randrange(-9, 10) + (at in word) for at in range(8)])
            self.assertIs(is_of_kirmse(element), True)
            near = element + of_halves([int(at in (1, chance.randrange(2, 8))) for at in range(8)])
            self.assertIs(is_of_kirmse(near), is_whole(0, near))
            self.assertIs(is_of_kirmse(element.scaled(Ratio(1, 3))), is_whole(0, element.scaled(Ratio(1, 3))))
        for value in NO_ELEMENTS:
            self.assertIs(is_of_kirmse(value), False)
        self.assertIs(is_of_kirmse(HALF.scaled(10 ** 59).scaled(10 ** 59 + 1)), True)

    def test_kirmse_pair(self):
        told = kirmse_pair()
        self.assertEqual([type(told), len(told)], [tuple, 2])
        self.assertEqual([is_of_kirmse(member) for member in told], [True, True])
        self.assertIs(is_of_kirmse(told[0] * told[1]), False)


if __name__ == "__main__":
    unittest.main()
