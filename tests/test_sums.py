"""[2.1] to [2.3] and [2.6]: sums of squares of integers and ratios, and open pairs."""

import random
import unittest
from fractions import Fraction
from math import isqrt

from squaretimes.base.ratios import Ratio
from squaretimes.base.tables import sum_of_squares
from squaretimes.errors import InvalidOperation, InvalidRatio, TooMany
from squaretimes.form.signs import SignTable
from squaretimes.square import sums
from squaretimes.square.sums import (
    MAX_MANY, MAX_SQUARED, is_open_pair, is_sum, made_whole, open_pair, squares_of, whole_squares,
)
from tests.helper import GREAT, NO_INTEGERS, NO_RATIOS, TOO_GREAT, Case

BOUND = 10 ** 8


def is_three(number):
    """[2.1] for three squares."""
    while number and number % 4 == 0:
        number //= 4
    return number % 8 != 7


def is_two(number):
    """[2.1] for two squares."""
    prime = 2
    while prime * prime <= number:
        times = 0
        while number % prime == 0:
            number, times = number // prime, times + 1
        if prime % 4 == 3 and times % 2:
            return False
        prime += 1
    return number % 4 != 3


def is_of_so_many(number, many):
    """[2.1] for one to four squares of integers."""
    if number < 0:
        return False
    return (isqrt(number) ** 2 == number, is_two(number), is_three(number), True)[many - 1]


def worth(value):
    return Fraction(value.top, value.bottom) if isinstance(value, Ratio) else Fraction(value)


def norm(values):
    return sum([worth(value) ** 2 for value in values])


def is_open(pair):
    """[2.3] for two rows of three ratios."""
    product = norm(pair[0]) * norm(pair[1])
    return not is_three(product.numerator * product.denominator)


class Judge(Case):
    """Assertions about what is told of squares."""

    def assert_whole(self, number, many, told=None):
        squares = whole_squares(number, many)
        if told is None:
            told = is_of_so_many(number, many)
        if not told:
            self.assertIsNone(squares, (number, many))
            return
        self.assertIs(type(squares), tuple, (number, many))
        self.assertEqual([type(one) for one in squares], [int] * many)
        self.assertEqual(sum([one * one for one in squares]), number)

    def assert_ratio(self, ratio, many, told):
        self.assert_same(is_sum(ratio, many), told)
        squares = squares_of(ratio, many)
        if not told:
            self.assertIsNone(squares, (str(ratio), many))
            return
        self.assertIs(type(squares), tuple, (str(ratio), many))
        self.assertEqual([type(one) for one in squares], [Ratio] * many)
        self.assertEqual(norm(squares), worth(ratio))


class Whole(Judge, unittest.TestCase):
    def test_constants(self):
        self.assert_same((MAX_SQUARED, MAX_MANY), (10 ** 8, 16))

    def test_small_numbers_by_trying_all(self):
        most = 300
        roots = range(isqrt(most) + 1)
        told = {1: {one * one for one in roots}}
        for many in (2, 3, 4):
            told[many] = {number + one * one for number in told[many - 1] for one in roots}
        for number in range(most + 1):
            for many in (1, 2, 3, 4):
                self.assert_whole(number, many, number in told[many])
                self.assertEqual(is_of_so_many(number, many), number in told[many])

    def test_small_numbers(self):
        for number in range(301, 3000):
            for many in (1, 2, 3, 4):
                self.assert_whole(number, many)

    def test_great_numbers(self):
        chance = random.Random(13)
        numbers = [chance.randrange(BOUND) for _ in range(150)] + list(range(BOUND - 50, BOUND + 1))
        for number in numbers:
            for many in (1, 2, 3, 4):
                self.assert_whole(number, many)

    def test_numbers_that_are_no_sum_of_three(self):
        for power in range(14):
            for eights in (0, 1, 2, 5, 12345, 12499999):
                number = 4 ** power * (8 * eights + 7)
                if number <= BOUND:
                    self.assert_whole(number, 3, False)
                    self.assert_whole(number, 4, True)
                    self.assert_whole(number - 4 ** power, 3, True)

    def test_powers_of_2(self):
        for power in range(27):
            for number in (2 ** power, 3 * 2 ** power, 5 * 2 ** power, 6 * 2 ** power):
                if number <= BOUND:
                    for many in (1, 2, 3, 4):
                        self.assert_whole(number, many)

    def test_squares_and_products_of_primes_that_leave_3(self):
        for root in (1, 2, 3, 7, 9999, 10000, 4097, 7919):
            self.assert_whole(root * root, 1, True)
            self.assert_whole(root * root - 1, 1)
            self.assert_whole(root * root - 1, 2)
        for prime in (3, 7, 11, 19, 43, 103, 499, 9967, 99999971):
            self.assertEqual(prime % 4, 3)
            self.assert_whole(prime, 2, False)
            if prime < 10 ** 4:
                self.assert_whole(prime * prime, 2, True)
                self.assert_whole(5 * prime, 2, False)
            if prime < 2000:
                self.assert_whole(13 * prime * prime, 2, True)
        for prime in (5, 13, 17, 9973, 99999989):
            self.assert_whole(prime, 2, prime % 4 == 1)

    def test_0_and_1(self):
        for many in (1, 2, 3, 4):
            self.assert_same(whole_squares(0, many), (0,) * many)
            self.assert_whole(1, many, True)

    def test_refusals(self):
        for value in NO_INTEGERS + (-1, -4, BOUND + 1, 10 ** 99, -10 ** 99):
            self.assert_number(value, whole_squares, value, 2)
            self.assert_number(value, whole_squares, value, 0)
            self.assert_number(value, whole_squares, value, None)
        for value in NO_INTEGERS + (0, -1, 5, 16, 10 ** 99):
            self.assert_number(value, whole_squares, 5, value)
            self.assert_number(value, whole_squares, 0, value)


class Ratios(Judge, unittest.TestCase):
    def test_small_ratios(self):
        for top in range(-12, 41):
            for bottom in range(1, 25):
                ratio = Ratio(top, bottom)
                for many in (1, 2, 3, 4):
                    self.assert_ratio(ratio, many, is_of_so_many(ratio.top * ratio.bottom, many))

    def test_integers(self):
        for number in list(range(-20, 200)) + [BOUND, BOUND - 1, 99999971, 99999989]:
            for many in (1, 2, 3, 4):
                self.assert_ratio(number, many, is_of_so_many(number, many))
        for number in (63, 7, 28, 15, 60):
            self.assert_ratio(number, 3, False)

    def test_great_ratios(self):
        chance = random.Random(14)
        for _ in range(150):
            bottom = chance.randrange(1, 5000)
            ratio = Ratio(chance.randrange(BOUND // bottom), bottom)
            for many in (1, 2, 3, 4):
                self.assert_ratio(ratio, many, is_of_so_many(ratio.top * ratio.bottom, many))

    def test_below_0(self):
        for ratio in (-1, Ratio(-1, 4), Ratio(-9, 4), -BOUND, Ratio(1, -BOUND)):
            for many in (1, 2, 3, 4):
                self.assert_ratio(ratio, many, False)

    def test_products_of_sums(self):
        chance = random.Random(15)
        for many in (1, 2, 4):
            for _ in range(40):
                row = [Ratio(chance.randrange(-4, 5), chance.randrange(1, 3)) for _ in range(2 * many)]
                one, other = sum_of_squares(tuple(row[:many])), sum_of_squares(tuple(row[many:]))
                self.assert_ratio(one * other, many, True)

    def test_the_bound(self):
        for ratio in (BOUND, -BOUND, Ratio(1, BOUND), Ratio(-1, BOUND), Ratio(10 ** 5 - 1, 1000)):
            number = worth(ratio).numerator * worth(ratio).denominator
            for many in (1, 2, 3, 4):
                self.assert_ratio(ratio, many, is_of_so_many(number, many))
        beyond = (
            BOUND + 1, -BOUND - 1, Ratio(BOUND + 1), Ratio(1, BOUND + 1), Ratio(-1, BOUND + 1), Ratio(10001, 10000),
            GREAT, -GREAT, Ratio(10 ** 4 + 1, -10 ** 4), Ratio(GREAT, GREAT - 1), Ratio(GREAT) * GREAT,
        )
        for ratio in beyond:
            for many in (1, 2, 3, 4):
                self.assert_kept(TooMany, "most", 10 ** 8, is_sum, ratio, many)
                self.assert_kept(TooMany, "most", 10 ** 8, squares_of, ratio, many)

    def test_refusals(self):
        for call in (is_sum, squares_of):
            for value in NO_RATIOS:
                self.assert_error(InvalidRatio, call, value, 2)
                self.assert_error(InvalidRatio, call, value, 0)
            for value in NO_INTEGERS + (0, -1, 5, 16, 10 ** 99):
                self.assert_number(value, call, 5, value)
                self.assert_number(value, call, Ratio(1, 2), value)

    def test_the_bound_is_asked_last(self):
        for call in (is_sum, squares_of):
            for value in (0, 5, True, None, "2"):
                self.assert_number(value, call, BOUND + 1, value)
                self.assert_number(value, call, Ratio(1, BOUND + 1), value)
            self.assert_error(InvalidRatio, call, TOO_GREAT, 2)


class MadeWhole(Judge, unittest.TestCase):
    def assert_made(self, values):
        whole = made_whole(values)
        self.assertIs(type(whole), tuple)
        self.assertEqual([type(one) for one in whole], [int] * len(values))
        self.assertEqual(norm(whole), norm(values))
        return whole

    def on_sphere(self, chance, many, size):
        """Ratios on the sphere around 0 through a whole point: where a line through this point meets it again."""
        centre = [chance.randrange(-size, size) for _ in range(many)]
        way = [chance.randrange(-size, size) for _ in range(many)]
        length = sum([one * one for one in way])
        if not length:
            return tuple(centre)
        step = Fraction(2 * sum([a * b for a, b in zip(centre, way)]), length)
        points = [a - step * b for a, b in zip(centre, way)]
        return tuple([Ratio(point.numerator, point.denominator) for point in points])

    def test_examples(self):
        self.assertIn(made_whole((Ratio(3, 5), Ratio(4, 5))), ((0, 1), (1, 0), (0, -1), (-1, 0)))
        self.assertEqual(sorted(map(abs, made_whole((Ratio(1, 3), Ratio(2, 3), Ratio(2, 3))))), [0, 0, 1])
        self.assertEqual(sorted(map(abs, made_whole((Ratio(1, 5), Ratio(7, 5))))), [1, 1])

    def test_one_value(self):
        for value in (0, 5, -5, Ratio(-7), Ratio(14, 2), GREAT, -GREAT):
            self.assertEqual(abs(self.assert_made((value,))[0]), abs(worth(value)))

    def test_integers(self):
        for values in (
            (3, 4), (0, 0), (-1, Ratio(2)), (1, -2, 3), (GREAT, -GREAT, GREAT), (0, GREAT, 7), (Ratio(5),) * 3,
        ):
            self.assert_made(values)

    def test_small_ratios(self):
        chance = random.Random(16)
        for many in (2, 3):
            for size in (2, 3, 5, 10, 50):
                for _ in range(60):
                    self.assert_made(self.on_sphere(chance, many, size))

    def test_ratios_of_many_digits(self):
        chance = random.Random(17)
        for many in (2, 3):
            for digits in (5, 10, 14, 19):
                for _ in range(30):
                    self.assert_made(self.on_sphere(chance, many, 10 ** digits))

    def test_bottoms_of_unlike_values(self):
        self.assert_made((Ratio(3, 5), 7, Ratio(-4, 5)))
        self.assert_made((Ratio(15, 13), Ratio(36, 13), 0))
        self.assert_made((Ratio(3, 5), Ratio(4 * 5, 5 * 13), Ratio(4 * 12, 5 * 13)))

    def test_ratios_longer_than_sixty_digits(self):
        chance = random.Random(18)
        length = Ratio(1)
        for _ in range(3):
            length = length * Ratio(chance.randrange(3, 10 ** 40), chance.randrange(3, 10 ** 40))
        # A point of the circle around 0: the squares of both add up to 1.
        below = length * length + 1
        one, other = (-length * length + 1).over(below), (length * 2).over(below)
        self.assertGreater(one.bottom, 10 ** 200)
        self.assert_made((one, other))
        self.assert_made((one * 1000, 5, other * 1000))
        self.assert_made((one * 12, other * 12 * Ratio(3, 5), other * 12 * Ratio(4, 5)))

    def test_integers_get_no_longer_than_those_that_are_passed(self):
        for part in range(GREAT // 4 - 20, GREAT // 4):
            three, four = Ratio(3 * part, 5), Ratio(4 * part, 5)
            for values in ((GREAT, three, four), (four, GREAT, three), (-three, four, -GREAT), (GREAT, GREAT, GREAT)):
                self.assertLessEqual(max(map(abs, self.assert_made(values))), GREAT)

    def test_refused_values(self):
        for value in NO_RATIOS:
            self.assert_error(InvalidRatio, made_whole, (value,))
            self.assert_error(InvalidRatio, made_whole, (1, value))
            self.assert_error(InvalidRatio, made_whole, (Ratio(1, 2), 1, value))
        for values in (
            None, (), (1,) * 4, (Ratio(1, 2),) * 4, [1], [1, 2], 1, Ratio(1), "1", {1: 2}, True, SignTable((1,)),
        ):
            self.assert_error(InvalidRatio, made_whole, values)

    def test_sums_that_are_no_integers(self):
        for values in (
            (Ratio(1, 2),), (Ratio(1, 2), Ratio(1, 2)), (Ratio(1, 2),) * 3, (Ratio(3, 5), Ratio(3, 5)),
            (1, 2, Ratio(1, GREAT)), (Ratio(1, 3), Ratio(2, 3), Ratio(1, 3)), (Ratio(-7, 3),),
        ):
            self.assert_error(InvalidOperation, made_whole, values)


class OpenPairs(Case, unittest.TestCase):
    RIGHT = ((1, 1, 1), (4, 2, 1))

    def test_open_pair(self):
        for many in range(1, 17):
            pair = open_pair(many)
            if many != 3:
                self.assertIsNone(pair)
                continue
            self.assertEqual([type(pair), [type(row) for row in pair]], [tuple, [tuple] * 2])
            self.assertEqual([[type(one) for one in row] for row in pair], [[Ratio] * 3] * 2)
            self.assertTrue(is_open(pair))
            self.assert_same(is_open_pair(3, pair), True)

    def test_small_pairs(self):
        rows = [(a, b, c) for a in range(-1, 4) for b in range(4) for c in range(5)]
        for one in rows:
            for other in rows[::3]:
                self.assert_same(is_open_pair(3, (one, other)), not is_three(int(norm(one) * norm(other))))

    def test_pairs_of_ratios(self):
        chance = random.Random(19)
        found = set()
        for _ in range(500):
            pair = tuple([
                tuple([chance.choice((Ratio(chance.randrange(-5, 6), chance.randrange(1, 6)), chance.randrange(-4, 5)))
                       for _ in range(3)]) for _ in range(2)])
            found.add(is_open(pair))
            self.assert_same(is_open_pair(3, pair), is_open(pair))
        self.assertEqual(found, {True, False})

    def test_signs_multiples_and_sequences(self):
        for pair in (
            ((-1, 1, -1), (1, -2, 4)), ((4, 2, 1), (1, 1, 1)), ((Ratio(1, 2),) * 3, (4, 2, 1)), ((2, 2, 2), (8, 4, 2)),
            ((Ratio(GREAT),) * 3, (4, 2, 1)), ((GREAT,) * 3, (4 * GREAT, 2 * GREAT, GREAT)),
            ((1, 1, 1), (Ratio(1, 7), Ratio(2, 7), Ratio(4, 7))), ((0, 0, 1), (1, 1, 1)), ((0, 0, 0), (1, 1, 1)),
            ((0, 0, 0), (0, 0, 0)), ((1, 1, 1), (4, 2, 2)), ((1, 1, 1), (1, 1, 0)), ((1, 1, 2), (3, 1, 2)),
        ):
            self.assert_same(is_open_pair(3, pair), is_open(pair))
        self.assert_same(is_open_pair(3, ((0, 0, 0), (4, 2, 1))), False)

    def test_members_of_any_size(self):
        great = 10 ** 4000 + 1
        self.assert_same(is_open_pair(3, ((great, great, great), (4, 2, 1))), True)
        self.assert_same(is_open_pair(3, ((great, great, 0), (4, 2, 1))), False)
        self.assert_same(is_open_pair(3, ((TOO_GREAT,) * 3, (4 * TOO_GREAT, -2 * TOO_GREAT, TOO_GREAT))), True)
        long = Ratio(GREAT).over(GREAT - 1) * GREAT
        self.assert_same(is_open_pair(3, ((long, -long, long), (long * 4, long * 2, long))), True)

    def test_values_near_pairs(self):
        self.assert_same(is_open_pair(3, self.RIGHT), True)
        for value in (
            ((1, 1), (4, 2, 1)), ((1, 1, 1), (4, 2)), ((1, 1, 1, 0), (4, 2, 1, 0)), ((1, 1, 1, 0), (4, 2, 1)), ((), ()),
            (), ((1, 1, 1),), ((1, 1, 1), (4, 2, 1), (1, 0, 0)), [(1, 1, 1), (4, 2, 1)], ([1, 1, 1], (4, 2, 1)),
            ((1, 1, 1), [4, 2, 1]), ((True, 1, 1), (4, 2, 1)), ((1, 1, 1), (4, 2, True)), ((1, 1, 1), (4, 2, None)),
            ((1, 1, "1"), (4, 2, 1)), ((1, 1, 1), (4, 2, 1.0)), ((1, 1, 1), None), (None, (4, 2, 1)), None, True, 3, 63,
            "", "abc", {}, [], {(1, 1, 1): (4, 2, 1)}, Ratio(63), ("111", "421"), ((1, 1, (1,)), (4, 2, 1)),
            (1, 1, 1, 4, 2, 1), SignTable((1, 2, 3)), ((1, 1, SignTable((1,))), (4, 2, 1)), (((1, 1, 1), (4, 2, 1)),),
            ((1, 1, Fraction(1)), (4, 2, 1)),
        ):
            self.assert_same(is_open_pair(3, value), False)

    def test_there_are_none_for_other_numbers(self):
        for many in range(1, 17):
            if many != 3:
                for row in ((1,) * many, (Ratio(1, 2),) * many, tuple(range(many))):
                    self.assert_same(is_open_pair(many, ((1,) * many, row)), False)
                self.assert_same(is_open_pair(many, self.RIGHT), False)
                self.assert_same(is_open_pair(many, None), False)
            if many > 3:
                # Sums whose product is 63.
                padded = tuple([row + (0,) * (many - 3) for row in self.RIGHT])
                self.assert_same(is_open_pair(many, padded), False)

    def test_refusals(self):
        for value in NO_INTEGERS + (0, -1, 17, 10 ** 99):
            self.assert_number(value, open_pair, value)
            self.assert_number(value, is_open_pair, value, self.RIGHT)
            self.assert_number(value, is_open_pair, value, None)


class Untrue(Case, unittest.TestCase):
    def test_sentences_that_are_not_true(self):
        self.assert_same([is_sum(3, 3), is_sum(5, 3), is_sum(Ratio(3, 5), 3)], [True, True, False])
        self.assert_same([is_sum(6, 3), is_sum(1, 3), is_sum(6 + 1, 3)], [True, True, False])
        self.assert_same([is_sum(3, 3), is_sum(21, 3), is_sum(63, 3)], [True, True, False])


class Listed(Case, unittest.TestCase):
    def test_each_function_is_defined_there(self):
        for call in (is_sum, squares_of, whole_squares, made_whole, open_pair, is_open_pair):
            self.assertEqual(call.__module__, sums.__name__)

    def test_example(self):
        self.assertEqual(
            [is_sum(Ratio(5, 2), 2), is_sum(Ratio(3, 4), 2), is_sum(7, 3), is_sum(-1, 4), squares_of(Ratio(1, 7), 3),
             is_sum(Ratio(9, 4), 1)],
            [True, False, False, False, None, True])
        self.assertEqual(
            [whole_squares(21, 2), whole_squares(0, 3), sum([one * one for one in whole_squares(1000, 3)]),
             made_whole((Ratio(3, 5), Ratio(4, 5))) in ((0, 1), (1, 0), (0, -1), (-1, 0))],
            [None, (0, 0, 0), 1000, True])
        self.assertEqual(
            [open_pair(2), open_pair(5), is_open_pair(3, ((1, 1, 1), (4, 2, 1))),
             is_open_pair(3, ((1, 1, 1), (1, 1, 0))), is_open_pair(4, ((1, 1, 1, 1), (1, 2, 4, 8)))],
            [None, None, True, False, False])


if __name__ == "__main__":
    unittest.main()
