"""[12.1] to [12.6]: words of letters, and the lots of them that make formulas."""

import random
import unittest
from itertools import combinations, product

from squaretimes.base.ratios import Ratio
from squaretimes.colour.bars import told_formula
from squaretimes.errors import InvalidNumber, InvalidOperation, Refused, TooMany
from squaretimes.form.formulas import Formula, is_formula
from squaretimes.form.radon import rho
from squaretimes.form.signs import SignTable
from squaretimes.word import words
from squaretimes.word.words import (
    MAX_LETTERS, MAX_MADE, are_let, clash, greatest_let, is_clash, word_sign, word_weight, words_formula,
)
from tests.helper import NO_PASSED_INTEGERS, NO_RATIOS, Case
from tests.helper import word_sign as plain_sign

ALL = {many: tuple(range(2 ** many)) for many in range(11)}
NO_LOTS = NO_RATIOS + (
    (-1,), (16,), (0, 16), (1, 0), (0, 0), (3, 2, 4), [0], [0, 1], (True,), (False, 1), (None,), (0, "1"), (0, (1,)),
    (10 ** 60,), (Ratio(0),), {0: 1}, range(2), SignTable((1,)),
)


def weight(word):
    return bin(word).count("1")


def clashes(firsts, seconds):
    """All clashes, by the definition."""
    return {
        (a, b, c, d) for a, b in combinations(firsts, 2) for c, d in combinations(seconds, 2)
        if a ^ b == c ^ d and weight(a ^ b) % 4 == 0
    }


def some_lots(many, count):
    chance = random.Random(many)
    for _ in range(count):
        yield tuple([
            tuple(sorted(chance.sample(range(2 ** many), chance.randrange(1, min(2 ** many, 9) + 1)))) for _ in range(2)
        ])


class Signs(Case, unittest.TestCase):
    def test_constants(self):
        self.assert_same([MAX_LETTERS, MAX_MADE], [10, 5])

    def test_signs_against_the_sums(self):
        for many in range(1, 6):
            for x, y in product(range(2 ** many), repeat=2):
                self.assert_same(word_sign(x, y, many), plain_sign(x, y, many))
        chance = random.Random(121)
        for many in range(6, 11):
            for _ in range(300):
                x, y = chance.randrange(2 ** many), chance.randrange(2 ** many)
                self.assert_same(word_sign(x, y, many), plain_sign(x, y, many))
            last = 2 ** many - 1
            self.assert_same(word_sign(last, last, many), plain_sign(last, last, many))

    def test_weights(self):
        for many in range(1, 11):
            for x in range(2 ** many):
                self.assert_same(word_weight(x, many), weight(x))

    def test_squares(self):
        for many in range(1, 11):
            for x in range(2 ** many):
                self.assertEqual(word_sign(x, x, many), 1 if weight(x) % 4 == 0 else -1)
                self.assert_same([word_sign(0, x, many), word_sign(x, 0, many)], [1, 1])

    def test_sequences_and_brackets(self):
        def s(x):
            return int(weight(x) % 4 != 0)
        chance = random.Random(122)
        for many in range(1, 11):
            for _ in range(200):
                x, y, z = [chance.randrange(2 ** many) for _ in range(3)]
                swapped = word_sign(x, y, many) == word_sign(y, x, many)
                self.assertEqual(swapped, (s(x) + s(y) + s(x ^ y)) % 2 == 0)
                ahead = word_sign(x, y, many) * word_sign(x ^ y, z, many)
                behind = word_sign(y, z, many) * word_sign(x, y ^ z, many)
                total = s(x) + s(y) + s(z) + s(x ^ y) + s(x ^ z) + s(y ^ z) + s(x ^ y ^ z)
                self.assertEqual(ahead == behind, total % 2 == 0)


class Wrong(Case, unittest.TestCase):
    def test_many_is_asked_ahead_of_all(self):
        for many in NO_PASSED_INTEGERS + (0, -1, 11, 10 ** 59):
            self.assert_number(many, word_sign, None, -1, many)
            self.assert_number(many, word_weight, None, many)
            self.assert_number(many, are_let, None, (), many)
            self.assert_number(many, clash, (), None, many)
            self.assert_number(many, is_clash, None, (), many, None)
            self.assert_number(many, words_formula, None, None, many)
            self.assert_number(many, greatest_let, many)

    def test_words(self):
        for value in NO_PASSED_INTEGERS + (-1, 16, 17, 10 ** 59):
            self.assert_number(value, word_sign, value, None, 4)
            self.assert_number(value, word_sign, 15, value, 4)
            self.assert_number(value, word_weight, value, 4)
        self.assert_number(2, word_sign, 2, 3, 1)
        self.assert_number(3, word_sign, 1, 3, 1)
        self.assert_number(1024, word_weight, 1024, 10)

    def test_lots(self):
        for value in NO_LOTS:
            if value == (1,):
                continue
            for call in (are_let, clash, words_formula):
                self.assert_error(InvalidOperation, call, value, (0,), 4)
                self.assert_error(InvalidOperation, call, (0,), value, 4)
            self.assert_error(InvalidOperation, is_clash, value, (0,), 4, (0, 15, 0, 15))
            self.assert_error(InvalidOperation, is_clash, (0,), value, 4, (0, 15, 0, 15))
        self.assert_error(InvalidOperation, words_formula, (0, 64), (0,), 6)

    def test_the_sequence_of_the_errors_of_formulas(self):
        self.assert_kept(TooMany, "most", 5, words_formula, (0, 15), (0, 15), 6)
        self.assert_kept(TooMany, "most", 5, words_formula, (0,), (0,), 10)
        self.assert_kept(Refused, "reason", ("clash",), words_formula, (0, 15), (0, 15), 5)
        self.assert_kept(Refused, "reason", ("clash",), words_formula, ALL[4], ALL[4], 4)
        for many in range(6, 11):
            self.assert_kept(TooMany, "most", 5, greatest_let, many)


class Clashes(Case, unittest.TestCase):
    def test_all_small_lots(self):
        lots = [lot for size in (1, 2, 3) for lot in combinations((0, 1, 7, 8, 14, 15), size)]
        for firsts, seconds in product(lots, repeat=2):
            self.judge(firsts, seconds, 4)

    def test_other_lots(self):
        for many in range(1, 11):
            for firsts, seconds in some_lots(many, 30):
                self.judge(firsts, seconds, many)

    def judge(self, firsts, seconds, many):
        right = clashes(firsts, seconds)
        told = clash(firsts, seconds, many)
        self.assertIs(are_let(firsts, seconds, many), not right)
        if right:
            self.assertIs(type(told), tuple)
            self.assertIn(told, right)
        else:
            self.assertIsNone(told)
        self.assertIs(is_clash(firsts, seconds, many, told), bool(right))

    def test_is_clash(self):
        chance = random.Random(123)
        for many in (4, 5, 8):
            for firsts, seconds in some_lots(many, 8):
                firsts = tuple(sorted({*firsts, 0, 15}))
                seconds = tuple(sorted({*seconds, 1, 14}))
                right = clashes(firsts, seconds)
                self.assertIn((0, 15, 1, 14), right)
                for value in right:
                    self.assertIs(is_clash(firsts, seconds, many, value), True)
                    a, b, c, d = value
                    self.assertIs(is_clash(firsts, seconds, many, [a, b, c, d]), False)
                    for near in ((b, a, c, d), (a, b, d, c), (a, b, c), (a, b, c, d, d), (c, d, a, b), (a, a, c, c),
                                 ((a, b), (c, d)), (a, b, c, chance.randrange(2 ** many))):
                        self.assertIs(is_clash(firsts, seconds, many, near), near in right)
                for _ in range(200):
                    value = tuple([chance.choice(firsts + seconds) for _ in range(4)])
                    self.assertIs(is_clash(firsts, seconds, many, value), value in right)

    def test_is_clash_of_all_quadruples(self):
        lots = ((0, 15), (0, 14, 15), (1, 14), (0, 1, 7, 8, 14, 15), (3,))
        for firsts, seconds in product(lots, repeat=2):
            right = clashes(firsts, seconds)
            for a, b, c in product(range(16), repeat=3):
                for d in {a ^ b ^ c, b}:
                    self.assertIs(is_clash(firsts, seconds, 4, (a, b, c, d)), (a, b, c, d) in right)

    def test_is_clash_of_other_values(self):
        wrong = NO_RATIOS + (
            (False, 15, 0, 15), (0, 15, False, 15), (0, 15, 0, None), (0, 15, 0, 10 ** 70), (10 ** 70, 0, 1, 2), "0123",
            (0, 15, 0, "15"), (0, 15, 0, (15,)), (Ratio(0), Ratio(15), Ratio(0), Ratio(15)), (-15, 0, -15, 0),
        )
        self.assertIs(is_clash(ALL[4], ALL[4], 4, (0, 15, 0, 15)), True)
        for value in wrong:
            self.assertIs(is_clash(ALL[4], ALL[4], 4, value), False)

    def test_greatest_lots(self):
        self.assertIs(are_let(ALL[10][:8], ALL[10], 10), True)
        self.assertIs(are_let(ALL[10], ALL[10], 10), False)
        self.assertIs(is_clash(ALL[10], ALL[10], 10, clash(ALL[10], ALL[10], 10)), True)

    def test_what_stays_let(self):
        chance = random.Random(124)
        for many in (4, 5, 6):
            for firsts, seconds in some_lots(many, 40):
                if clash(firsts, seconds, many) is None:
                    word = chance.randrange(2 ** many)
                    self.assertIs(are_let(tuple(sorted([x ^ word for x in firsts])), seconds, many), True)
                    self.assertIs(are_let(seconds, firsts, many), True)
                    less = tuple(sorted(chance.sample(firsts, chance.randrange(1, len(firsts) + 1))))
                    self.assertIs(are_let(less, seconds, many), True)
                if not [1 for x, y in combinations(firsts, 2) if weight(x ^ y) % 4 == 0]:
                    self.assertIs(are_let(firsts, ALL[many], many), True)

    def test_all_words_with_themselves(self):
        self.assert_same([are_let(ALL[many], ALL[many], many) for many in range(1, 11)], [True] * 3 + [False] * 7)


class Formulas(Case, unittest.TestCase):
    def test_against_the_signs(self):
        made = 0
        for many in range(1, 6):
            for firsts, seconds in some_lots(many, 40):
                if clashes(firsts, seconds):
                    self.assert_kept(Refused, "reason", ("clash",), words_formula, firsts, seconds, many)
                    continue
                formula = words_formula(firsts, seconds, many)
                made += 1
                self.assertIs(type(formula), Formula)
                self.assertEqual(formula.sizes, (len(firsts), len(seconds), 2 ** many))
                for x, table in zip(firsts, formula.tables):
                    for y, row in zip(seconds, table):
                        wanted = [plain_sign(x, y, many) if at == x ^ y else 0 for at in range(2 ** many)]
                        self.assert_same(row, tuple([Ratio(entry) for entry in wanted]))
        self.assertGreater(made, 50)

    def test_formulas_exactly_if_the_lots_are_let(self):
        for many in range(2, 6):
            for firsts, seconds in some_lots(many, 12):
                tables = tuple([tuple([
                    tuple([Ratio(plain_sign(x, y, many) if at == x ^ y else 0) for at in range(2 ** many)])
                    for y in seconds]) for x in firsts])
                self.assertIs(is_formula(tables), are_let(firsts, seconds, many))

    def test_greatest_let(self):
        for many, size in ((1, 2), (2, 4), (3, 8), (4, 8), (5, 10)):
            lot = greatest_let(many)
            self.assert_same(lot, tuple(sorted(set(lot))))
            self.assertEqual([len(lot), lot[0] >= 0, lot[-1] < 2 ** many], [size, True, True])
            self.assertIs(are_let(lot, ALL[many], many), True)
            formula = words_formula(lot, ALL[many], many)
            self.assertEqual(formula.sizes, (size, 2 ** many, 2 ** many))
            self.assertIs(is_formula(formula.tables), True)
            self.assertEqual(size == rho(2 ** many), many != 4)

    def test_no_lot_is_greater(self):
        # Lots that are let with all words have no two words that differ by a weight that 4 divides: 0 can be in them.
        def most(chosen, left):
            best = len(chosen)
            for at, word in enumerate(left):
                if best < len(chosen) + len(left) - at:
                    more = [other for other in left[at + 1:] if weight(word ^ other) % 4]
                    best = max(best, most(chosen + [word], more))
            return best
        for many in (1, 2, 3, 4, 5):
            left = [word for word in ALL[many][1:] if weight(word) % 4]
            self.assertEqual(most([0], left), len(greatest_let(many)))

    def test_all_is_defined_in_its_module(self):
        for one in (are_let, clash, greatest_let, is_clash, word_sign, word_weight, words_formula):
            self.assertEqual(one.__module__, words.__name__)


class NotTrue(Case, unittest.TestCase):
    """The sentences of [12.6]."""

    def test_the_sequence_of_words(self):
        self.assertNotEqual(word_sign(1, 2, 3), word_sign(2, 1, 3))

    def test_together_at_most_all_words(self):
        self.assertIs(are_let(ALL[3], ALL[3], 3), True)

    def test_each_signed_formula_comes_from_words(self):
        # Those of words have as many columns as there are words, a power of two.
        formula = told_formula(3, 5)
        self.assertEqual(formula.sizes, (3, 5, 7))
        self.assertTrue(all(any(row[at] for table in formula.tables for row in table) for at in range(7)))

    def test_rho(self):
        self.assert_same([len(greatest_let(4)), rho(16)], [8, 9])
        self.assertRaises(InvalidNumber, greatest_let, 0)


if __name__ == "__main__":
    unittest.main()
