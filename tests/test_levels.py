"""[2.4] to [2.6]: levels and level papers."""

import unittest
from fractions import Fraction

from squaretimes.base.ratios import Ratio
from squaretimes.form.signs import SignTable
from squaretimes.square import levels
from squaretimes.square.levels import MAX_LEVELLED, is_level_paper, level, level_paper
from tests.helper import GREAT, NO_INTEGERS, Case

MOST = 10 ** 4


def is_free(number):
    """Whether the square of no integer from 2 on divides the number."""
    return all([number % (root * root) for root in range(2, 101)])


SMALL = [number for number in range(1, 600) if is_free(number)]
GREAT_ONES = [number for number in range(MOST - 150, MOST + 1) if is_free(number)]


def level_of(number):
    """[2.4]: the level."""
    return 1 if number == 1 else 4 if number % 8 == 7 else 2


def worth(ratio):
    return Fraction(ratio.top, ratio.bottom)


def sums(number, paper):
    """The two sums of [2.4]."""
    pairs = [(worth(first), worth(second)) for first, second in paper]
    return sum([p * p for p, _ in pairs]) - number * sum([q * q for _, q in pairs]), sum([p * q for p, q in pairs])


def of_three(a, b, c):
    """The first paper of [2.5]."""
    h = b * b + c * c
    return (Ratio(c * a, h), Ratio(b, h)), (Ratio(-b * a, h), Ratio(c, h))


def of_four(a, b, c, e):
    """The second paper of [2.5]."""
    return (Ratio(0), Ratio(1, e)), (Ratio(a, e), Ratio(0)), (Ratio(b, e), Ratio(0)), (Ratio(c, e), Ratio(0))


class Levels(Case, unittest.TestCase):
    def test_max_levelled(self):
        self.assert_same(MAX_LEVELLED, 10 ** 4)

    def test_levels(self):
        self.assert_same([level(number) for number in (1, 2, 3, 5, 6, 7, 15, 23, 30)], [1, 2, 2, 2, 2, 4, 4, 4, 2])
        for number in SMALL + GREAT_ONES:
            self.assert_same(level(number), level_of(number))

    def test_refusals(self):
        squared = [number for number in list(range(2, 600)) + list(range(MOST - 150, MOST + 1)) if not is_free(number)]
        squared = squared + [89 * 89, 97 * 97, 2 * 67 * 67, 7 * 37 * 37]
        for value in NO_INTEGERS + tuple(squared) + (0, -1, -2, -7, MOST + 1, MOST + 7, 10 ** 99, -10 ** 99):
            self.assert_number(value, level, value)
            self.assert_number(value, level_paper, value)
            self.assert_number(value, is_level_paper, value, ())
            self.assert_number(value, is_level_paper, value, ((Ratio(0), Ratio(1)),))

    def test_the_square_of_each_prime_is_refused(self):
        for root in range(2, 101):
            self.assert_number(root * root, level, root * root)


class Papers(Case, unittest.TestCase):
    def test_told_papers(self):
        for number in SMALL + GREAT_ONES:
            paper = level_paper(number)
            self.assertEqual((type(paper), len(paper)), (tuple, level_of(number)))
            self.assertEqual([(type(pair), len(pair)) for pair in paper], [(tuple, 2)] * len(paper))
            self.assertEqual([type(one) for pair in paper for one in pair], [Ratio] * (2 * len(paper)))
            self.assertEqual(sums(number, paper), (-1, 0))
            self.assert_same(is_level_paper(number, paper), True)

    def test_papers_of_three_squares(self):
        for a in range(-3, 8):
            for b in range(-2, 7):
                for c in range(0, 7):
                    number = a * a + b * b + c * c
                    if (b or c) and number > 1 and is_free(number):
                        self.assert_same(is_level_paper(number, of_three(a, b, c)), True)

    def test_papers_of_four_squares(self):
        for a in range(0, 6):
            for b in range(-2, 5):
                for c in range(-3, 4):
                    for e in (-5, -2, -1, 1, 2, 3, 6):
                        number = a * a + b * b + c * c + e * e
                        if number % 8 == 7 and is_free(number):
                            self.assert_same(is_level_paper(number, of_four(a, b, c, e)), True)

    def test_papers_of_other_numbers(self):
        paper = of_three(1, 1, 1)
        self.assertEqual([number for number in SMALL if is_level_paper(number, paper)], [3])
        paper = of_four(1, 1, 1, 2)
        self.assertEqual([number for number in SMALL if is_level_paper(number, paper)], [7])
        paper = ((Ratio(0), Ratio(-1)),)
        self.assertEqual([number for number in SMALL if is_level_paper(number, paper)], [1])

    def test_papers_with_another_number_of_members(self):
        none = (Ratio(0), Ratio(0))
        self.assertEqual(sums(3, of_three(1, 1, 1) + (none,)), (-1, 0))
        for number in (3, 5, 6, 30):
            paper = level_paper(number)
            for value in (paper + (none,), paper + (none, none), paper[:1], ()):
                self.assert_same(is_level_paper(number, value), False)
        for value in ((none,) + level_paper(1), (), level_paper(7)[:3], level_paper(7) + (none,)):
            self.assert_same(is_level_paper(1, value), False)
            self.assert_same(is_level_paper(7, value), False)

    def test_values_near_papers(self):
        for number in (1, 2, 3, 7, 15, 30, 9998, 9995):
            paper = level_paper(number)
            for at, (first, second) in enumerate(paper):
                for pair in (
                    (first + 1, second), (first, second + 1), (first, -second - 1), (first.over(2) + 3, second),
                    (first, first + 2), (first,), (first, second, second), [first, second], None, first, (first, None),
                    (True, second), (first, "1"), (first, second.top), (first.top, second), (first, (second,)), (),
                    "ab", (SignTable((1,)), second), (worth(first), second),
                ):
                    value = paper[:at] + (pair,) + paper[at + 1:]
                    self.assert_same(is_level_paper(number, value), False)

    def test_one_of_both_sums_alone(self):
        squares = ((Ratio(1), Ratio(1)), (Ratio(0), Ratio(0)))
        self.assertEqual(sums(2, squares)[0], -1)
        self.assert_same(is_level_paper(2, squares), False)
        products = ((Ratio(1), Ratio(1)), (Ratio(1), Ratio(-1)))
        self.assertEqual(sums(2, products)[1], 0)
        self.assert_same(is_level_paper(2, products), False)

    def test_other_values(self):
        for value in (
            None, True, 0, 1, -1, "", "ab", (), [], {}, {1: 2}, Ratio(1), (None,), (1,), ((),), [(Ratio(0), Ratio(1))],
            ((0, 1),), ((Ratio(0), 1),), ((0, Ratio(1)),), ((False, True),), SignTable((1, 2)),
        ):
            for number in (1, 2, 7):
                self.assert_same(is_level_paper(number, value), False)
        self.assert_same(is_level_paper(2, ((0, 1), (1, 0))), False)
        self.assert_same(is_level_paper(2, [(Ratio(0), Ratio(1)), (Ratio(1), Ratio(0))]), False)

    def test_integers_of_any_length(self):
        # The squares of both add up to 1: 1 less 2 times 1 is -1.
        length = Ratio(GREAT) * GREAT
        one, other = (length * 2).over(length * length + 1), (length * length - 1).over(length * length + 1)
        paper = ((other, one), (one, -other))
        self.assertEqual(sums(2, paper), (-1, 0))
        self.assert_same(is_level_paper(2, paper), True)
        self.assert_same(is_level_paper(2, ((other, one), (one, other))), False)


class Untrue(Case, unittest.TestCase):
    def test_the_level_need_not_divide_the_number(self):
        self.assert_same([level(2), level(3), 3 % level(3)], [2, 2, 1])


class Listed(Case, unittest.TestCase):
    def test_each_function_is_defined_there(self):
        self.assertEqual([call.__module__ for call in (level, level_paper, is_level_paper)], [levels.__name__] * 3)

    def test_example(self):
        self.assertEqual(
            [[level(number) for number in (1, 2, 3, 7, 15, 30)],
             is_level_paper(2, ((Ratio(0), Ratio(1)), (Ratio(1), Ratio(0)))),
             is_level_paper(1, ((Ratio(0), Ratio(-1)),))],
            [[1, 2, 2, 4, 4, 2], True, True])
        self.assert_number(12, level, 12)


if __name__ == "__main__":
    unittest.main()
