"""Stage 1: the class Ratio, with [0.1] to [0.7] as far as they are about it."""

import operator
import random
import unittest
from fractions import Fraction

from squaretimes.base import ratios
from squaretimes.base.ratios import Ratio
from squaretimes.errors import InvalidNumber, InvalidOperation, InvalidRatio, ParseError
from squaretimes.form.signs import SignTable
from tests.helper import GREAT, NO_PASSED_INTEGERS, NO_RATIOS, TOO_GREAT, Case

SMALL = [Ratio(top, bottom) for top in range(-6, 7) for bottom in (-5, -4, -3, -2, -1, 1, 2, 3, 4, 5)]


def fraction(ratio):
    return Fraction(ratio.top, ratio.bottom)


def sixty_digits(chance):
    return chance.randrange(10 ** 59, 10 ** 60) * chance.choice((-1, 1))


class Made(Case, unittest.TestCase):
    def assert_parts(self, ratio, top, bottom):
        self.assert_same((ratio.top, ratio.bottom), (top, bottom))

    def test_lowest_terms_with_a_bottom_above_0(self):
        self.assert_parts(Ratio(6, 4), 3, 2)
        self.assert_parts(Ratio(6, -4), -3, 2)
        self.assert_parts(Ratio(-6, 4), -3, 2)
        self.assert_parts(Ratio(-6, -4), 3, 2)
        self.assert_parts(Ratio(0, -7), 0, 1)
        self.assert_parts(Ratio(0), 0, 1)
        self.assert_parts(Ratio(7), 7, 1)
        self.assert_parts(Ratio(-7), -7, 1)
        self.assert_parts(Ratio(12, -4), -3, 1)

    def test_all_small_ones(self):
        for top in range(-30, 31):
            for bottom in range(-30, 31):
                if bottom:
                    wanted = Fraction(top, bottom)
                    self.assert_parts(Ratio(top, bottom), wanted.numerator, wanted.denominator)

    def test_sixty_digits(self):
        self.assert_parts(Ratio(GREAT), GREAT, 1)
        self.assert_parts(Ratio(-GREAT), -GREAT, 1)
        self.assert_parts(Ratio(1, -GREAT), -1, GREAT)
        self.assert_parts(Ratio(GREAT, -GREAT), -1, 1)
        self.assert_parts(Ratio(GREAT, 10 ** 59), GREAT, 10 ** 59)
        chance = random.Random(1)
        for _ in range(100):
            shared = chance.randrange(1, 10 ** 20)
            top, bottom = chance.randrange(-10 ** 40, 10 ** 40), chance.randrange(1, 10 ** 40)
            wanted = Fraction(top, bottom)
            self.assert_parts(Ratio(-top * shared, -bottom * shared), wanted.numerator, wanted.denominator)

    def test_sign(self):
        self.assert_same([Ratio(-1, 7).sign, Ratio(0, 7).sign, Ratio(GREAT, 7).sign, Ratio(2, -3).sign], [-1, 0, 1, -1])

    def test_it_never_changes(self):
        ratio = Ratio(2, 3)
        for name in ("top", "bottom", "sign"):
            self.assertRaises(AttributeError, setattr, ratio, name, 5)
        ratio + 1, ratio - ratio, ratio * 4, -ratio, ratio == 1, bool(ratio), str(ratio)
        ratio.over(-7), ratio.compared(2)
        changed = ratio
        changed += 1
        self.assert_parts(ratio, 2, 3)
        self.assert_parts(changed, 5, 3)

    def test_it_is_not_iterated_over(self):
        self.assertRaises(TypeError, iter, Ratio(1))
        self.assertRaises(TypeError, operator.contains, Ratio(1), 1)

    def test_refused_tops_and_bottoms(self):
        for value in NO_PASSED_INTEGERS:
            self.assert_number(value, Ratio, value)
            self.assert_number(value, Ratio, value, 3)
            self.assert_number(value, Ratio, 3, value)
        self.assert_number(0, Ratio, 1, 0)
        self.assert_number(0, Ratio, 0, 0)

    def test_the_top_is_refused_first(self):
        for value in NO_PASSED_INTEGERS:
            self.assert_number(value, Ratio, value, 0)
            self.assert_number(value, Ratio, value, "bottom")
            self.assert_number(value, Ratio, value, None)


class Counted(Case, unittest.TestCase):
    SIGNS = (operator.add, operator.sub, operator.mul)

    def assert_worth(self, ratio, worth):
        self.assertIs(type(ratio), Ratio)
        self.assert_same((ratio.top, ratio.bottom), (worth.numerator, worth.denominator))

    def test_small_ratios_and_integers(self):
        for sign in self.SIGNS:
            for one in SMALL:
                for other in SMALL:
                    self.assert_worth(sign(one, other), sign(fraction(one), fraction(other)))
                for number in range(-5, 6):
                    self.assert_worth(sign(one, number), sign(fraction(one), number))

    def test_sixty_digits(self):
        chance = random.Random(2)
        for _ in range(50):
            one = Ratio(sixty_digits(chance), sixty_digits(chance))
            other = Ratio(sixty_digits(chance), sixty_digits(chance))
            number = sixty_digits(chance)
            for sign in self.SIGNS:
                self.assert_worth(sign(one, other), sign(fraction(one), fraction(other)))
                self.assert_worth(sign(one, number), sign(fraction(one), number))
            self.assert_worth(one.over(other), fraction(one) / fraction(other))
            self.assert_worth(one.over(number), fraction(one) / number)
            self.assert_worth(-one, -fraction(one))

    def test_integers_inside_have_any_length(self):
        great = Ratio(GREAT) * GREAT * GREAT
        self.assert_worth(great, Fraction(GREAT ** 3))
        self.assert_worth(great + Ratio(1, 3), Fraction(GREAT ** 3) + Fraction(1, 3))
        self.assert_worth(Ratio(1).over(great) - great, Fraction(1, GREAT ** 3) - GREAT ** 3)
        self.assert_worth(-great, Fraction(-GREAT ** 3))
        self.assert_same(great.compared(Ratio(1).over(great)), 1)
        self.assertTrue(great.over(great) == 1)

    def test_opposites(self):
        for one in SMALL:
            self.assert_worth(-one, -fraction(one))

    def test_over(self):
        for one in SMALL:
            for other in SMALL:
                if other.top:
                    self.assert_worth(one.over(other), fraction(one) / fraction(other))
            for number in (-5, -1, 1, 2, 7):
                self.assert_worth(one.over(number), fraction(one) / number)

    def test_over_refuses(self):
        for value in NO_RATIOS:
            self.assert_error(InvalidRatio, Ratio(1).over, value)
        self.assert_error(InvalidOperation, Ratio(1).over, 0)
        self.assert_error(InvalidOperation, Ratio(0).over, Ratio(0, 5))

    def test_compared(self):
        for one in SMALL:
            for other in SMALL + [Ratio(2, 7)]:
                wanted = (fraction(one) > fraction(other)) - (fraction(one) < fraction(other))
                self.assert_same(one.compared(other), wanted)
            for number in range(-5, 6):
                wanted = (fraction(one) > number) - (fraction(one) < number)
                self.assert_same(one.compared(number), wanted)
        self.assert_same(Ratio(GREAT, GREAT - 1).compared(Ratio(GREAT - 1, GREAT - 2)), -1)
        self.assert_same(Ratio(GREAT).compared(GREAT), 0)

    def test_compared_refuses(self):
        for value in NO_RATIOS:
            self.assert_error(InvalidRatio, Ratio(1).compared, value)

    def test_operands_of_another_kind(self):
        for sign in self.SIGNS:
            for value in NO_RATIOS:
                self.assert_error(TypeError, sign, Ratio(1, 2), value)
        for sign in (operator.lt, operator.le, operator.gt, operator.ge, operator.truediv, operator.pow, operator.mod):
            self.assert_error(TypeError, sign, Ratio(1, 2), Ratio(2))

    def test_left_operands_of_another_kind(self):
        for sign in self.SIGNS:
            for value in (1, True, None, "1", [], SignTable((1,))):
                self.assert_error(TypeError, sign, value, Ratio(1, 2))


class Judged(Case, unittest.TestCase):
    def test_equal(self):
        for one in SMALL:
            for other in SMALL:
                wanted = fraction(one) == fraction(other)
                self.assert_same([one == other, one != other], [wanted, not wanted])
            for number in range(-7, 8):
                wanted = fraction(one) == number
                self.assert_same([one == number, one != number, number == one], [wanted, not wanted, wanted])

    def test_equal_to_integers_of_any_length(self):
        great = Ratio(10 ** 59) * 100
        self.assert_same([great == 10 ** 61, great == 10 ** 61 + 1, Ratio(1) == TOO_GREAT], [True, False, False])

    def test_equal_to_nothing_else(self):
        for value in (True, None, "1", 1.0, (1,), [1], {1: 1}, SignTable((1,)), Fraction(1), object(), Ratio):
            self.assert_same([Ratio(1) == value, Ratio(1) != value], [False, True])
        for value in (False, None, "", "0", (), [], {}):
            self.assert_same([Ratio(0) == value, Ratio(0) != value], [False, True])

    def test_bool(self):
        for one in SMALL:
            self.assert_same(bool(one), fraction(one) != 0)
        self.assert_same([bool(Ratio(1, GREAT)), bool(Ratio(1) - 1)], [True, False])


class Written(Case, unittest.TestCase):
    def test_str(self):
        wanted = {
            "0": Ratio(0, 3), "5": Ratio(10, 2), "-5": Ratio(5, -1), "1/2": Ratio(1, 2), "-3/2": Ratio(6, -4),
            "10/3": Ratio(10, 3), str(GREAT): Ratio(GREAT), "-1/" + str(GREAT): Ratio(-1, GREAT),
        }
        for text, ratio in wanted.items():
            self.assert_same(str(ratio), text)

    def test_each_str_is_read_back(self):
        chance = random.Random(3)
        great = [Ratio(sixty_digits(chance), sixty_digits(chance)) for _ in range(50)]
        for ratio in SMALL + great + [Ratio(GREAT), Ratio(-GREAT), Ratio(-GREAT, GREAT - 1)]:
            read = Ratio.read(str(ratio))
            self.assertIs(type(read), Ratio)
            self.assertTrue(read == ratio)

    def test_texts_of_no_ratio(self):
        texts = (
            "", " ", "-", "/", "1/", "/2", "-/2", "+1", "1/+2", "+1/2", " 1", "1 ", "1 /2", "1/ 2", "1\n", "\t1",
            "1\n/2", "01", "-01", "00", "1/02", "01/2", "-0", "-0/1", "0/2", "0/1", "1/1", "5/1", "1/0", "0/0", "-1/0",
            "2/4", "-6/4", "3/3", "1/-2", "-1/-2", "--1", "-+1", "1/2/3", "1//2", "1.0", "1e3", "1_0", "0x1", "a",
            "one", "1/a", "1a", "None", "True", "\u0661", "\u00b2", "1/\u0662", "1,2", "(1)", "1" * 4000,
        )
        for text in texts:
            self.assert_kept(ParseError, "spot", 0, Ratio.read, text)

    def test_more_than_sixty_digits(self):
        self.assertTrue(Ratio.read("9" * 60) == GREAT)
        self.assertTrue(Ratio.read("-" + "9" * 60) == -GREAT)
        self.assertTrue(Ratio.read("-1/" + "9" * 60) == Ratio(-1, GREAT))
        noughts = "0" * 60
        for number in ("1" + noughts, "-1" + noughts, "0" + noughts, noughts + "2"):
            self.assert_kept(ParseError, "spot", 0, Ratio.read, number)
            self.assert_kept(ParseError, "spot", 0, Ratio.read, "1/" + number)
            self.assert_kept(ParseError, "spot", 0, Ratio.read, number + "/7")

    def test_values_that_are_no_strings(self):
        for value in (None, True, 0, 1, 10 ** 70, (), ("1",), ["1"], {}, {"1": "1"}, b"1", Ratio(1), SignTable((1,))):
            self.assert_kept(ParseError, "spot", 0, Ratio.read, value)


class Listed(unittest.TestCase):
    def test_all_is_defined_in_the_class_itself(self):
        names = (
            "read", "top", "bottom", "sign", "over", "compared", "__add__", "__sub__", "__mul__", "__neg__", "__eq__",
            "__bool__", "__str__", "__init__",
        )
        for name in names:
            self.assertIn(name, vars(Ratio))
        self.assertEqual(Ratio.__module__, ratios.__name__)

    def test_example(self):
        self.assertEqual(
            [str(Ratio(6, -4)), Ratio.read("-3/2") == Ratio(6, -4), Ratio(3) == 3, (Ratio(1, 2) + 1).top,
             Ratio(1, 3).compared(0), str(Ratio(2).over(4))],
            ["-3/2", True, True, 3, 1, "1/2"])
        self.assertRaises(InvalidNumber, Ratio, True)


if __name__ == "__main__":
    unittest.main()
