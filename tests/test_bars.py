"""[11.1] to [11.5]: bars by binomials, and the formulas of the sizes that are left."""

import unittest
from itertools import product
from math import comb

from squaretimes.base.ratios import Ratio
from squaretimes.colour import bars
from squaretimes.colour.bars import (
    MAX_NUMBER, MAX_SIZE, MAX_TOLD, is_let, is_odd_binomial, least_let, left_terms, odd_binomial, told_formula,
)
from squaretimes.form.formulas import Formula, is_formula
from squaretimes.form.radon import rho
from tests.helper import NO_PASSED_INTEGERS, Case, fraction

ODD = [[comb(n, k) % 2 == 1 for k in range(n + 1)] for n in range(131)]


def odd_ones(r, s, n):
    """The integers k with n - r < k < s for which C(n, k) is odd, by the definition."""
    row = ODD[n] if n < len(ODD) else [comb(n, k) % 2 == 1 for k in range(n + 1)]
    return [k for k in range(n - r + 1, s) if 0 <= k <= n and row[k]]


def by_steps(r, s):
    """r o s by [11.3]."""
    if (r, s) == (1, 1):
        return 1
    if r > s:
        return by_steps(s, r)
    t = 0
    while not 2 ** t < s <= 2 ** (t + 1):
        t += 1
    return 2 ** t + by_steps(r, s - 2 ** t) if r <= 2 ** t else 2 ** (t + 1)


# Sizes and numbers up to the bounds.
GREAT = (
    (1, 1, 1), (1, 1, 2000), (1000, 1000, 2000), (1000, 1000, 1023), (1000, 1000, 1024), (1000, 1000, 999),
    (1, 1000, 999), (1, 1000, 1000), (1000, 1, 1000), (1000, 1, 999), (513, 600, 1023), (513, 600, 1024), (17, 40, 55),
    (17, 40, 56), (999, 3, 1001), (700, 512, 1000), (700, 512, 1211), (1000, 1000, 1999), (1000, 1000, 1), (5, 999, 1001),
)


class Let(Case, unittest.TestCase):
    def test_constants(self):
        self.assert_same([MAX_SIZE, MAX_NUMBER, MAX_TOLD], [1000, 2000, 9])

    def test_least_let_by_the_definition(self):
        for r in range(1, 61):
            for s in range(r, 61):
                told = least_let(r, s)
                self.assertIs(type(told), int)
                wanted = [n for n in range(1, r + s) if not odd_ones(r, s, n)][0]
                self.assertEqual([told, least_let(s, r)], [wanted, wanted])

    def test_least_let_by_the_steps(self):
        for r, s in product((1, 2, 3, 7, 31, 64, 65, 127, 128, 129, 500, 511, 512, 513, 999, 1000), repeat=2):
            self.assertEqual(least_let(r, s), by_steps(r, s))
            self.assertTrue(max(r, s) <= least_let(r, s) < r + s)
        self.assert_same([least_let(1000, 1000), least_let(1, 1000), least_let(1, 1)], [1024, 1000, 1])

    def test_is_let(self):
        for r, s in product(range(1, 19), repeat=2):
            for n in range(1, 40):
                self.assertIs(is_let(r, s, n), not odd_ones(r, s, n))
                self.assertIs(is_let(r, s, n), n >= least_let(r, s))
        for r, s, n in GREAT:
            self.assertIs(is_let(r, s, n), not odd_ones(r, s, n))

    def test_odd_binomial(self):
        for r, s, n in list(product(range(1, 15), range(1, 15), range(1, 30))) + list(GREAT):
            told = odd_binomial(r, s, n)
            right = odd_ones(r, s, n)
            if right:
                self.assertIs(type(told), int)
                self.assertIn(told, right)
            else:
                self.assertIsNone(told)
            self.assertIs(is_odd_binomial(r, s, n, told), bool(right))

    def test_is_odd_binomial(self):
        for r, s, n in list(product(range(1, 10), range(1, 10), range(1, 20))):
            right = odd_ones(r, s, n)
            for value in range(-5, 25):
                self.assertIs(is_odd_binomial(r, s, n, value), value in right)
        for r, s, n in GREAT:
            right = odd_ones(r, s, n)
            for value in right[:5] + right[-5:] + [n - r, n - r + 1, s - 1, s, 0, n, n + 1, -1, -n]:
                self.assertIs(is_odd_binomial(r, s, n, value), value in right)

    def test_is_odd_binomial_of_other_values(self):
        self.assert_same([is_odd_binomial(2, 2, 1, 1), is_odd_binomial(2, 2, 1, 0)], [True, True])
        for value in NO_PASSED_INTEGERS + (10 ** 200, -10 ** 200, 2 ** 300 - 1, "0", (0,), [1], (1,)):
            self.assertIs(is_odd_binomial(2, 2, 1, value), False)

    def test_left_terms(self):
        for r, s, n in list(product(range(1, 12), range(1, 12), range(1, 24))) + list(GREAT):
            row = ODD[n] if n < len(ODD) else [comb(n, k) % 2 == 1 for k in range(n + 1)]
            wanted = [(i, n - i) for i in range(n + 1) if row[i] and i < r and n - i < s]
            self.assert_same(left_terms(r, s, n), tuple(wanted))
            self.assertIs(is_let(r, s, n), not wanted)


class Wrong(Case, unittest.TestCase):
    def test_alone(self):
        for value in NO_PASSED_INTEGERS + (0, -1, 1001, 2001, 10 ** 59):
            for call in (is_let, odd_binomial, left_terms):
                self.assert_number(value, call, value, 1, 1)
                self.assert_number(value, call, 1, value, 1)
                if value != 1001:
                    self.assert_number(value, call, 1, 1, value)
            self.assert_number(value, least_let, value, 1)
            self.assert_number(value, least_let, 1, value)
            self.assert_number(value, is_odd_binomial, value, 1, 1, 0)
            self.assert_number(value, is_odd_binomial, 1, value, 1, 0)

    def test_two_at_once(self):
        for call in (is_let, odd_binomial, left_terms):
            self.assert_number(0, call, 0, 1001, 2001)
            self.assert_number(1001, call, 1, 1001, 2001)
            self.assert_number(2001, call, 1, 1000, 2001)
        self.assert_number(None, least_let, None, 0)
        self.assert_number(True, is_odd_binomial, 1, True, 0, None)
        self.assert_number(0, is_odd_binomial, 1, 1, 0, None)

    def test_told_formula(self):
        for value in NO_PASSED_INTEGERS + (0, -1, 10, 16, 1000):
            self.assert_number(value, told_formula, value, 1)
            self.assert_number(value, told_formula, 9, value)
            self.assert_number(value, told_formula, value, 0)
        self.assert_number(10, told_formula, 10, 16)
        self.assert_number(16, told_formula, 9, 16)


class Told(Case, unittest.TestCase):
    def test_all_sizes(self):
        for r, s in product(range(1, 10), repeat=2):
            formula = told_formula(r, s)
            self.assertIs(type(formula), Formula)
            self.assert_same(formula.sizes, (r, s, least_let(r, s)))
            entries = {fraction(entry) for table in formula.tables for row in table for entry in row}
            self.assertLessEqual(entries, {0, 1, -1})
            self.assertIs(is_formula(formula.tables), True)

    def test_all_is_defined_in_its_module(self):
        for one in (is_let, is_odd_binomial, least_let, left_terms, odd_binomial, told_formula):
            self.assertEqual(one.__module__, bars.__name__)


class NotTrue(Case, unittest.TestCase):
    """The sentences of [11.5], and one of [0.17]."""

    def test_a_formula_for_all_that_is_let(self):
        # A formula of the sizes (r, n, n) has r of at most rho(n).
        self.assert_same([is_let(10, 16, 16), rho(16)], [True, 9])

    def test_sums(self):
        self.assertNotEqual(least_let(3, 1 + 2), least_let(3, 1) + least_let(3, 2))

    def test_all_binomials_between_are_even(self):
        self.assertIs(is_let(3, 5, 7), True)
        self.assertEqual(comb(7, 3) % 2, 1)

    def test_no_more_than_rho(self):
        self.assert_same([least_let(10, 16), rho(16) < 10], [16, True])

    def test_ratios_are_no_integers(self):
        self.assert_number(Ratio(3), least_let, Ratio(3), 3)


if __name__ == "__main__":
    unittest.main()
