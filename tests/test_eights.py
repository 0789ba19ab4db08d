"""[6.1] to [6.7]: eights, and the ways between them."""

import random
import unittest

from squaretimes.base.ratios import Ratio
from squaretimes.double import eights
from squaretimes.double.doubled import Doubled, Element
from squaretimes.double.eights import (
    MAX_SQUARE, MAX_WANTED, are_alike, followed, images, is_images, is_with_square, led, taken_back, with_square,
)
from squaretimes.errors import InvalidAlgebra, InvalidElement, InvalidOperation, TooMany
from tests.helper import GREAT, NO_INTEGERS, NO_RATIOS, Case

FOUR, EIGHT, OTHER = Doubled((-1, -1)), Doubled((-1, -1, -1)), Doubled((1, 1, 1))
TWO = Doubled((-2, -1, -1))
BOX = [square for square in range(-30, 31) if square]
NO_EIGHTS = NO_RATIOS + (
    FOUR, Doubled(()), Doubled((-1,)), Doubled((-1, -1, -1, -1)), (-1, -1, -1), [EIGHT], (EIGHT,), EIGHT.one(), Doubled,
)


def any_eight(chance, definite=None):
    """An eight with squares to the size 30, at times with some that are like each other."""
    while True:
        squares = [chance.choice(BOX) for _ in range(3)]
        kind = chance.randrange(6)
        if kind == 0:
            squares[1] = squares[0]
        elif kind == 1:
            squares[2] = -squares[1]
        elif kind == 2:
            squares = [chance.choice((19, 23, 29, -19, -23, -29)) for _ in range(3)]
        elif definite:
            squares = [-abs(square) for square in squares]
        eight = Doubled(tuple(squares))
        if definite in (None, eight.is_definite):
            return eight


def any_element(chance, algebra):
    entries = tuple([chance.choice((0, chance.randint(-9, 9))) for _ in range(algebra.dimension)])
    return Element(algebra, entries, chance.choice((1, 2, 3)))


def digits(values):
    found = [entry for value in values for entry in value.entries + (value.bottom,)]
    return max([len(str(abs(entry))) for entry in found])


def plain_led(other, way, element):
    """The element of the other eight by the words of [6.4]."""
    x, y, z = way
    parts = (other.one(), x, y, x * y, z, x * z, y * z, (x * y) * z)
    total = other.one() - other.one()
    for entry, part in zip(element.entries, parts):
        total = total + part.scaled(Ratio(entry, element.bottom))
    return total


def plain_is_images(one, other, value):
    x, y, z = value
    squares = all([part * part == other.one().scaled(square) for part, square in zip(value, one.squares)])
    pairs = ((x, y), (x, z), (y, z), (x * y, z))
    return squares and all([not a * b + b * a for a, b in pairs])


def some_ways(many=12):
    """Triples of two eights and images of the one in the other."""
    chance = random.Random(71)
    found = [(EIGHT, EIGHT, EIGHT.units()[1:3] + EIGHT.units()[4:5]), (OTHER, OTHER, images(OTHER, OTHER))]
    for at in range(many):
        one, other = any_eight(chance, at % 2 == 0), any_eight(chance, at % 2 == 0)
        found.append((one, other, images(one, other)))
    return found


class Alike(Case, unittest.TestCase):
    def test_constants(self):
        self.assert_same([MAX_SQUARE, MAX_WANTED], [30, 1000])

    def test_are_alike(self):
        chance = random.Random(72)
        for _ in range(60):
            one, other = any_eight(chance), any_eight(chance)
            self.assert_same(are_alike(one, other), (max(one.squares) < 0) == (max(other.squares) < 0))
        great = Doubled((-1000000, -999999, -7))
        self.assert_same([are_alike(EIGHT, great), are_alike(great, OTHER), are_alike(OTHER, Doubled((-1, -1, 2)))],
                         [True, False, True])

    def test_images_both_ways(self):
        chance = random.Random(73)
        for at in range(60):
            definite = at % 2 == 0
            one, other = any_eight(chance, definite), any_eight(chance, definite)
            for first, second in ((one, other), (other, one)):
                way = images(first, second)
                self.assert_same((type(way), len(way)), (tuple, 3))
                self.assertTrue(plain_is_images(first, second, way))
                self.assert_same(is_images(first, second, way), True)
                self.assertLessEqual(digits(way), 60)
                self.assertTrue(all([part.algebra == second for part in way]))

    def test_images_in_itself_and_of_great_squares(self):
        for squares in ((30, 30, 30), (-30, -30, -30), (-30, -29, -23), (29, -30, -30), (-1, -1, 1), (-30, 30, -30)):
            one = Doubled(squares)
            way = images(one, one)
            self.assert_same(is_images(one, one, way), True)
            self.assertLessEqual(digits(way), 60)

    def test_none_exactly_for_others(self):
        chance = random.Random(74)
        for _ in range(30):
            one, other = any_eight(chance, True), any_eight(chance, False)
            self.assert_same([images(one, other), images(other, one)], [None, None])

    def test_errors(self):
        for value in NO_EIGHTS:
            for call in (are_alike, images):
                self.assert_error(InvalidAlgebra, call, value, EIGHT)
                self.assert_error(InvalidAlgebra, call, EIGHT, value)
                self.assert_error(InvalidAlgebra, call, Doubled((31, 1, 1)), value)
            self.assert_error(InvalidAlgebra, is_images, value, EIGHT, None)
            self.assert_error(InvalidAlgebra, is_images, EIGHT, value, None)
        for squares in ((31, 1, 1), (1, -31, 1), (1, 1, 1000000), (-31, -1, -1), (-1, -1, -31)):
            great = Doubled(squares)
            for other in (EIGHT, OTHER, great):
                self.assert_kept(TooMany, "most", 30, images, great, other)
                self.assert_kept(TooMany, "most", 30, images, other, great)


class Judged(Case, unittest.TestCase):
    def test_right_images_of_great_squares(self):
        great, other = Doubled((-1000000, -4, -999 * 999)), Doubled((-1, -1, -1))
        e = other.units()
        way = (e[1].scaled(1000), e[2].scaled(-2), e[4].scaled(999))
        self.assert_same([is_images(great, other, way), is_images(other, great, way)], [True, False])
        turned = long_images(way)
        self.assert_same(is_images(great, other, turned), True)
        self.assertGreater(digits(turned), 60)

    def test_values_near_images(self):
        chance = random.Random(75)
        for one, other, way in some_ways():
            x, y, z = way
            nearby = (
                (y, x, z), (x, y, -z), (-x, y, z), (x, y, x * y), (x, y, z.scaled(2)), (x, y, z.mate()), (x, y, z, z),
                (x, y), (x, x, z), (x, y, z + other.one()), (x, y, x * z), (x * y, y, z), (x, z, y), (z, y, x),
            )
            for value in nearby:
                wanted = len(value) == 3 and plain_is_images(one, other, value)
                self.assert_same(is_images(one, other, value), wanted)
            entries = list(y.entries)
            entries[chance.randrange(8)] += 1
            changed = (x, Element(other, tuple(entries), y.bottom), z)
            self.assert_same(is_images(one, other, changed), plain_is_images(one, other, changed))

    def test_each_two_of_a_triple_count(self):
        e = EIGHT.units()
        mixed = (e[1].scaled(3) + e[4].scaled(4)).scaled(Ratio(1, 5))
        other = (e[2].scaled(3) + e[4].scaled(4)).scaled(Ratio(1, 5))
        both = (e[3].scaled(3) + e[4].scaled(4)).scaled(Ratio(1, 5))
        for z in (mixed, other, both):
            self.assertTrue(z * z == -e[0])
            self.assert_same(is_images(EIGHT, EIGHT, (e[1], e[2], z)), False)
        self.assert_same(is_images(EIGHT, EIGHT, (e[1], mixed, e[2])), False)
        self.assert_same(is_images(EIGHT, EIGHT, (e[1], e[1], e[4])), False)

    def test_other_values(self):
        e = EIGHT.units()
        wrong = NO_RATIOS + (
            [e[1], e[2], e[4]], (e[1], e[2], None), (e[1], e[2], 4), (e[1], [e[2]], e[4]), e[1], ((e[1], e[2], e[4]),),
            (e[1], e[2], OTHER.units()[4]), (FOUR.units()[1], FOUR.units()[2], FOUR.units()[3]), EIGHT, {0: e[1]},
            tuple(OTHER.units()[1:4]), (True, True, True), (e[1],) * 3, (e[0],) * 3,
        )
        for value in wrong:
            self.assert_same(is_images(EIGHT, EIGHT, value), False)

    def test_squares_that_are_squares_of_ratios(self):
        e = OTHER.units()
        self.assert_same([is_images(OTHER, OTHER, (e[0], e[2], e[4])), is_images(OTHER, OTHER, (e[1], e[2], e[0]))],
                         [False, False])
        self.assert_same(is_images(OTHER, OTHER, (e[1], e[2], e[4])), True)

    def test_the_last_sentence_of_6_7(self):
        e = EIGHT.units()
        triple = (e[1], e[2], e[3])
        for one in triple:
            self.assertTrue(one * one == -e[0])
        self.assertTrue(e[1] * e[2] == -(e[2] * e[1]) and e[1] * e[3] == -(e[3] * e[1]) and e[2] * e[3] == -(e[3] * e[2]))
        self.assert_same(is_images(EIGHT, EIGHT, triple), False)


def long_images(way):
    """Images with the same x and y, but with long integers in z: it is multiplied by an element of the norm 1."""
    x, y, z = way
    element = x.algebra.one() + (x + y).scaled(GREAT)
    turn = (element * element).scaled(Ratio(1).over(element.norm))
    return x, y, turn * z


class Ways(Case, unittest.TestCase):
    def test_led(self):
        chance = random.Random(76)
        for one, other, way in some_ways():
            for _ in range(3):
                x, y = any_element(chance, one), any_element(chance, one)
                a, b = led(one, other, way, x), led(one, other, way, y)
                self.assertIs(type(a), Element)
                self.assertTrue(a.algebra == other and a == plain_led(other, way, x))
                self.assertTrue(led(one, other, way, x * y) == a * b)
                self.assertTrue(led(one, other, way, x + y) == a + b)
                self.assertTrue(a.trace == x.trace and a.norm == x.norm)
                self.assertTrue(led(one, other, way, x.mate()) == a.mate())
            self.assertTrue(led(one, other, way, one.one()) == other.one())
            for at, part in zip((1, 2, 4), way):
                self.assertTrue(led(one, other, way, one.units()[at]) == part)

    def test_taken_back(self):
        chance = random.Random(77)
        for one, other, way in some_ways():
            back = taken_back(one, other, way)
            self.assert_same(is_images(other, one, back), True)
            for _ in range(2):
                x, y = any_element(chance, one), any_element(chance, other)
                self.assertTrue(led(other, one, back, led(one, other, way, x)) == x)
                self.assertTrue(led(one, other, way, led(other, one, back, y)) == y)
            self.assertTrue(taken_back(other, one, back) == way)
            units = one.units()
            self.assertTrue(followed(one, other, one, way, back) == (units[1], units[2], units[4]))

    def test_followed(self):
        chance = random.Random(78)
        for definite in (True, False, True, False):
            a, b, c, d = [any_eight(chance, definite) for _ in range(4)]
            first, second, third = images(a, b), images(b, c), images(c, d)
            both = followed(a, b, c, first, second)
            self.assert_same(is_images(a, c, both), True)
            x = any_element(chance, a)
            self.assertTrue(led(a, c, both, x) == led(b, c, second, led(a, b, first, x)))
            ahead = followed(a, c, d, both, third)
            self.assertTrue(ahead == followed(a, b, d, first, followed(b, c, d, second, third)))

    def test_ways_that_are_made(self):
        e = EIGHT.units()
        way = ((e[1].scaled(3) + e[6].scaled(4)).scaled(Ratio(1, 5)), e[2], e[5])
        self.assertTrue(is_images(EIGHT, EIGHT, way) and plain_is_images(EIGHT, EIGHT, way))
        self.assertTrue(followed(EIGHT, EIGHT, EIGHT, way, taken_back(EIGHT, EIGHT, way)) == (e[1], e[2], e[4]))
        long = long_images(way)
        self.assertTrue(followed(EIGHT, EIGHT, EIGHT, taken_back(EIGHT, EIGHT, long), long) == (e[1], e[2], e[4]))
        self.assertTrue(led(EIGHT, EIGHT, long, e[7]) == (long[0] * long[1]) * long[2])
        turn = Element(EIGHT, (1, 1, 1, 1, 0, 0, 0, 0), 2)
        way = tuple([(turn * e[at]) * turn.inverse() for at in (1, 2, 4)])
        self.assert_same(is_images(EIGHT, EIGHT, way), True)
        back = taken_back(EIGHT, EIGHT, way)
        self.assertTrue(followed(EIGHT, EIGHT, EIGHT, way, back) == (e[1], e[2], e[4]))
        swap = (e[2], e[1], e[4])
        self.assertTrue(taken_back(EIGHT, EIGHT, swap) == swap)

    def test_errors(self):
        e = EIGHT.units()
        way = (e[1], e[2], e[4])
        for value in NO_EIGHTS:
            self.assert_error(InvalidAlgebra, led, value, EIGHT, None, None)
            self.assert_error(InvalidAlgebra, led, EIGHT, value, None, None)
            self.assert_error(InvalidAlgebra, taken_back, value, EIGHT, None)
            self.assert_error(InvalidAlgebra, taken_back, EIGHT, value, None)
            self.assert_error(InvalidAlgebra, followed, value, EIGHT, EIGHT, None, None)
            self.assert_error(InvalidAlgebra, followed, EIGHT, value, EIGHT, None, None)
            self.assert_error(InvalidAlgebra, followed, EIGHT, EIGHT, value, None, None)
        no_ways = NO_RATIOS + ((e[1], e[2], e[3]), [e[1], e[2], e[4]], (e[1], e[2]), (OTHER.one(),) * 3, EIGHT)
        for value in no_ways:
            self.assert_error(InvalidOperation, led, EIGHT, EIGHT, value, e[4])
            self.assert_error(InvalidOperation, led, EIGHT, EIGHT, value, None)
            self.assert_error(InvalidOperation, taken_back, EIGHT, EIGHT, value)
            self.assert_error(InvalidOperation, followed, EIGHT, EIGHT, EIGHT, value, way)
            self.assert_error(InvalidOperation, followed, EIGHT, EIGHT, EIGHT, way, value)
        self.assert_error(InvalidOperation, led, TWO, EIGHT, way, e[4])
        self.assert_error(InvalidOperation, taken_back, TWO, EIGHT, way)
        for value in NO_RATIOS + (e[1:3], FOUR.one(), OTHER.one(), TWO.one(), EIGHT, (1,) + (0,) * 7):
            self.assert_error(InvalidElement, led, EIGHT, EIGHT, way, value)
        self.assert_error(InvalidElement, led, TWO, EIGHT, (e[1] + e[2], e[3], e[4]), e[1])


class Squares(Case, unittest.TestCase):
    def test_with_square(self):
        chance = random.Random(79)
        numbers = [1, -1, 2, -2, 3, -7, 15, -15, 999, -999, 1000, -1000]
        for at in range(40):
            eight = any_eight(chance, at % 2 == 0)
            for number in chance.sample(numbers, 3) + [chance.choice((-1, 1)) * chance.randint(1, 1000)]:
                told = with_square(eight, number)
                if eight.is_definite and number > 0:
                    self.assertIsNone(told)
                    continue
                self.assertTrue(told.algebra == eight and told.trace == 0)
                self.assertTrue(told * told == eight.one().scaled(number))
                self.assertLessEqual(digits((told,)), 60)
                self.assert_same(is_with_square(eight, number, told), True)

    def test_many_numbers(self):
        for number in list(range(-1000, 1001, 9)) + list(range(-40, 41)):
            if number:
                self.assertTrue(with_square(OTHER, number).norm == -number)
                told = with_square(EIGHT, number)
                self.assertTrue(told is None if number > 0 else told.norm == -number and told.trace == 0)

    def test_is_with_square(self):
        e, great = EIGHT.units(), Doubled((-1000, 31, 7)).units()
        self.assert_same([is_with_square(EIGHT, -3, e[1] + e[2] + e[5]), is_with_square(EIGHT, -2, e[1] + e[2] + e[5])],
                         [True, False])
        algebra = great[0].algebra
        self.assert_same([is_with_square(algebra, -1000, great[1]), is_with_square(algebra, 7, great[4]),
                          is_with_square(algebra, 31, great[2]), is_with_square(algebra, 38, great[2] + great[4])],
                         [True, True, True, True])
        # The square is right, and the trace is not 0.
        self.assert_same([is_with_square(OTHER, 4, OTHER.one().scaled(2)), is_with_square(OTHER, 1, -OTHER.one())],
                         [False, False])
        self.assert_same(is_with_square(OTHER, 4, OTHER.units()[1].scaled(2)), True)
        wrong = NO_RATIOS + (e[0], e[1], [OTHER.units()[1]], (OTHER.units()[1],), OTHER, FOUR.units()[1], 4, None)
        for value in wrong:
            self.assert_same(is_with_square(OTHER, 4, value), False)
        self.assert_same(is_with_square(OTHER, 1, OTHER.units()[1] + OTHER.one()), False)
        long = led_long(OTHER)
        self.assert_same([is_with_square(OTHER, 1, long), is_with_square(OTHER, -1, long)], [True, False])
        self.assertGreater(digits((long,)), 60)

    def test_errors(self):
        e = EIGHT.units()
        for value in NO_EIGHTS:
            self.assert_error(InvalidAlgebra, with_square, value, 0)
            self.assert_error(InvalidAlgebra, is_with_square, value, 0, None)
        great = Doubled((31, 1, 1))
        for value in NO_INTEGERS + (0, 1001, -1001, 10 ** 99, -10 ** 99):
            self.assert_number(value, with_square, EIGHT, value)
            self.assert_number(value, with_square, great, value)
            self.assert_number(value, is_with_square, EIGHT, value, e[1])
        for squares in ((31, 1, 1), (-1, -31, -1), (1, 1, -1000000), (-31, -31, -31)):
            for number in (1, -1):
                self.assert_kept(TooMany, "most", 30, with_square, Doubled(squares), number)


def led_long(algebra):
    """An element with the square 1 and long integers: e1 with a multiple of e2 and e3, whose squares cancel out."""
    long = Ratio(GREAT) * GREAT
    e = algebra.units()
    return e[1] + e[2].scaled(long) + e[1].scaled(0) + (e[1] * e[2]).scaled(long)


class NotTrue(Case, unittest.TestCase):
    def test_unlike_squares_can_be_alike(self):
        one, other = Doubled((-2, -3, -5)), EIGHT
        self.assert_same([are_alike(one, other), is_images(one, other, images(one, other))], [True, True])

    def test_images_do_not_lead_units_to_units(self):
        e = EIGHT.units()
        spun = (e[1], e[2], (e[4].scaled(3) + e[5].scaled(4)).scaled(Ratio(1, 5)))
        self.assert_same(is_images(EIGHT, EIGHT, spun), True)
        self.assertNotIn(led(EIGHT, EIGHT, spun, e[4]), e + tuple([-one for one in e]))

    def test_example(self):
        e, two = EIGHT.units(), TWO
        self.assertEqual(
            [are_alike(EIGHT, Doubled((-2, -3, -5))), are_alike(OTHER, Doubled((-1, -1, 2))), are_alike(EIGHT, OTHER),
             images(EIGHT, OTHER)],
            [True, True, False, None])
        way = (e[1] + e[2], e[3], e[4])
        self.assertEqual(
            [is_images(two, EIGHT, way), is_images(EIGHT, EIGHT, way), is_images(EIGHT, EIGHT, (e[2], e[1], e[4])),
             is_images(EIGHT, EIGHT, (e[1], e[2], e[3]))],
            [True, False, True, False])
        self.assertEqual(
            [led(two, EIGHT, way, two.units()[3]) == e[1] - e[2], led(two, EIGHT, way, two.units()[4]) == e[4],
             taken_back(EIGHT, EIGHT, (e[2], e[1], e[4])) == (e[2], e[1], e[4])],
            [True, True, True])
        other = OTHER.units()
        self.assertEqual(
            [with_square(EIGHT, 3), is_with_square(EIGHT, -3, e[1] + e[2] + e[5]),
             is_with_square(OTHER, 7, (other[1] + other[2]).scaled(2) + other[3])],
            [None, True, True])
        self.assert_error(InvalidOperation, led, EIGHT, EIGHT, (e[1], e[2], e[3]), e[4])

    def test_all_is_defined_in_the_file(self):
        names = (are_alike, images, is_images, led, taken_back, followed, with_square, is_with_square)
        for one in names:
            self.assertEqual(one.__module__, eights.__name__)


if __name__ == "__main__":
    unittest.main()
