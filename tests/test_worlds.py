"""[13.1] to [13.7] and [0.15]: worlds of units."""

import random
import unittest
from itertools import permutations, product
from math import isqrt

from squaretimes.base.ratios import Ratio
from squaretimes.errors import InvalidOperation, TooMany
from squaretimes.form.radon import family, is_family, rho
from squaretimes.form.signs import SignTable
from squaretimes.word import worlds
from squaretimes.word.worlds import (
    MAX_UNITS, centre, even_units, images_of_units, is_even_units, is_images_of_units, least_size, word_product,
    world_of,
)
from tests.helper import NO_PASSED_INTEGERS, NO_RATIOS, Case

WORLDS = [(plus, many - plus) for many in range(9) for plus in range(many + 1)]
WITH_UNITS = WORLDS[1:]
CALLS = (centre, even_units, world_of, least_size, images_of_units)
JUDGES = (is_even_units, is_images_of_units)


def units_of(mask):
    return [at for at in range(mask.bit_length()) if (mask >> at) & 1]


def plain_product(plus, one, other):
    """By sorting the units: neighbours are exchanged with the other sign, equal ones make their square."""
    units, sign = units_of(one) + units_of(other), 1
    at = 0
    while at < len(units) - 1:
        first, second = units[at], units[at + 1]
        if first == second:
            sign = sign if first < plus else -sign
            del units[at:at + 2]
            at = max(at - 1, 0)
        elif first > second:
            units[at], units[at + 1] = second, first
            sign = -sign
            at = max(at - 1, 0)
        else:
            at += 1
    return sign, sum([2 ** unit for unit in units])


def are_even_units(plus, minus, value):
    """By [13.3], for a tuple of integers."""
    many = plus + minus
    if len(value) != many - 1 or any(not 0 <= mask < 2 ** many or len(units_of(mask)) != 2 for mask in value):
        return False
    for at, one in enumerate(value):
        for other in value[at + 1:]:
            if plain_product(plus, one, other)[0] != -plain_product(plus, other, one)[0]:
                return False
    squares = [plain_product(plus, mask, mask)[0] for mask in value]
    wanted = []
    if minus:
        wanted.append([1] * plus + [-1] * (minus - 1))
    if plus:
        wanted.append([1] * minus + [-1] * (plus - 1))
    made = {0}
    for mask in value:
        made = made | {mask ^ word for word in made}
    return squares in wanted and made == {word for word in range(2 ** many) if len(units_of(word)) % 2 == 0}


def rows_of(marks):
    return [[(abs(mark) == at + 1) * (1 if mark > 0 else -1) for at in range(len(marks))] for mark in marks]


def multiplied(one, other):
    return [other[abs(mark) - 1] * (1 if mark > 0 else -1) for mark in one]


def are_images(plus, minus, value):
    """By [13.5], for a tuple of marks of one size."""
    if len(value) != plus + minus:
        return False
    for at, one in enumerate(value):
        idle = list(range(1, len(one) + 1))
        if multiplied(one, one) != (idle if at < plus else [-mark for mark in idle]):
            return False
        for other in value[at + 1:]:
            if multiplied(one, other) != [-mark for mark in multiplied(other, one)]:
                return False
    return True


def times_over(image, many):
    """The sign table that has a table so many times along the diagonal."""
    size = image.size
    return SignTable(tuple([
        (abs(mark) + at * size) * (1 if mark > 0 else -1) for at in range(many) for mark in image.marks
    ]))


def moved(chance, images):
    """The images in another basis."""
    size = images[0].size
    table = SignTable(tuple([chance.choice((1, -1)) * at for at in chance.sample(range(1, size + 1), size)]))
    return tuple([table * image * table.turned() for image in images])


class Products(Case, unittest.TestCase):
    def test_max_units(self):
        self.assert_same(MAX_UNITS, 8)

    def test_against_sorting_units(self):
        for plus, minus in WORLDS:
            last = 2 ** (plus + minus)
            if last <= 32:
                pairs = list(product(range(last), repeat=2))
            else:
                chance = random.Random(last + plus)
                pairs = [(chance.randrange(last), chance.randrange(last)) for _ in range(400)] + [(last - 1, last - 1)]
            for one, other in pairs:
                self.assert_same(word_product(plus, minus, one, other), plain_product(plus, one, other))

    def test_centre(self):
        for plus, minus in WORLDS:
            many = plus + minus
            wanted = [
                word for word in range(2 ** many)
                if all(plain_product(plus, word, 1 << at) == plain_product(plus, 1 << at, word) for at in range(many))
            ]
            self.assert_same(centre(plus, minus), tuple(wanted))


class EvenUnits(Case, unittest.TestCase):
    def test_all_worlds_with_a_unit(self):
        for plus, minus in WITH_UNITS:
            told = even_units(plus, minus)
            self.assertTrue(all(type(mask) is int for mask in told))
            self.assertIs(type(told), tuple)
            self.assertTrue(are_even_units(plus, minus, told), (plus, minus, told))
            self.assertIs(is_even_units(plus, minus, told), True)
        self.assert_same([even_units(0, 1), even_units(1, 0)], [(), ()])

    def test_all_tuples_of_small_worlds(self):
        for plus, minus in [world for world in WITH_UNITS if sum(world) <= 4]:
            many = plus + minus
            for value in product(range(2 ** many), repeat=many - 1):
                self.assertIs(is_even_units(plus, minus, value), are_even_units(plus, minus, value))

    def test_tuples_near_right_ones(self):
        chance = random.Random(131)
        for plus, minus in [world for world in WITH_UNITS if sum(world) > 4]:
            many = plus + minus
            stars = [
                [(1 << at) | (1 << middle) for at in range(many) if at != middle] for middle in range(many)
            ]
            for star in stars:
                found = [star, sorted(star, key=lambda mask: -plain_product(plus, mask, mask)[0])]
                for _ in range(6):
                    near = list(chance.choice(found))
                    chance.shuffle(near)
                    found.append(list(near))
                    near[chance.randrange(len(near))] = (1 << chance.randrange(many)) | (1 << chance.randrange(many))
                    found.append(near)
                for value in found:
                    right = are_even_units(plus, minus, value)
                    self.assertIs(is_even_units(plus, minus, tuple(value)), right)
                    self.assertIs(is_even_units(plus, minus, value), False)
                self.assertIs(is_even_units(plus, minus, tuple(found[1])), True)

    def test_triangles(self):
        # Each two of these words anticommute, but their product is one of none of the units.
        self.assertIs(is_even_units(0, 4, (3, 5, 6)), False)
        self.assertIs(is_even_units(0, 4, (3, 5, 9)), True)

    def test_other_values(self):
        for value in NO_RATIOS + ((True, 5), (3, None), (3, "5"), (3, 5, 5), ((3, 5),), (3, 10 ** 70), (-3, 5), (3,)):
            self.assertIs(is_even_units(0, 3, value), False)
            if value != ():
                self.assertIs(is_even_units(0, 1, value), False)
        self.assert_same([is_even_units(0, 3, (3, 5)), is_even_units(0, 1, ())], [True, True])

    def test_units_of_no_world(self):
        for value in ((3, 9), (9, 3), (9, 17), (3, 5), (3, 2 ** 70 + 1), (5, 6), (3, 6)):
            self.assertIs(is_even_units(0, 3, value), max(value) < 8)

    def test_the_squares_with_1_stand_first(self):
        self.assert_same([is_even_units(1, 2, (5, 6)), is_even_units(1, 2, (6, 5))], [True, False])


class Kinds(Case, unittest.TestCase):
    def test_world_of(self):
        kinds = {
            0: ("ratios", 1), 2: ("ratios", 1), 1: ("two ratios", 2), 3: ("twos", 2), 7: ("twos", 2), 4: ("fours", 4),
            6: ("fours", 4), 5: ("two fours", 8),
        }
        for plus, minus in WORLDS:
            word, factor = kinds[(plus - minus) % 8]
            size = isqrt(2 ** (plus + minus) // factor)
            self.assertEqual(size * size * factor, 2 ** (plus + minus))
            self.assert_same(world_of(plus, minus), (word, size))

    def test_least_size(self):
        for plus, minus in WORLDS:
            word, size = world_of(plus, minus)
            wanted = size * {"ratios": 1, "two ratios": 1, "twos": 2, "fours": 4, "two fours": 4}[word]
            self.assert_same(least_size(plus, minus), wanted)
            self.assertLessEqual(wanted, 32)

    def test_units_with_the_square_minus_1_and_rho(self):
        for many in range(9):
            wanted = [size for size in range(1, 65) if rho(size) >= many + 1][0]
            self.assertEqual(least_size(0, many), wanted)


class Images(Case, unittest.TestCase):
    def test_all_worlds(self):
        for plus, minus in WORLDS:
            images = images_of_units(plus, minus)
            self.assertIs(type(images), tuple)
            self.assertTrue(all(type(image) is SignTable for image in images))
            self.assertEqual([image.size for image in images], [least_size(plus, minus)] * (plus + minus))
            self.assertTrue(are_images(plus, minus, [image.marks for image in images]))
            self.assertIs(is_images_of_units(plus, minus, images), True)

    def test_without_units(self):
        self.assert_same([images_of_units(0, 0), is_images_of_units(0, 0, ())], [(), True])
        for value in NO_RATIOS + ((SignTable((1,)),), [()], ((),)):
            if value != ():
                self.assertIs(is_images_of_units(0, 0, value), False)

    def test_with_units(self):
        for plus, minus in WITH_UNITS:
            images = images_of_units(plus, minus)
            for value in NO_RATIOS + (list(images), images + images[:1], images[:-1] + (None,), images[:-1] + (1,),
                                      images[:-1] + (images[-1].marks,), (images,), images[:-1],
                                      (None,) + images[1:], ("a",) + images[1:], (images[0].table(),) + images[1:]):
                self.assertIs(is_images_of_units(plus, minus, value), False)

    def test_unlike_sizes(self):
        for plus, minus in WORLDS:
            images = images_of_units(plus, minus)
            for at in range(len(images)):
                mixed = images[:at] + (times_over(images[at], 2),) + images[at + 1:]
                self.assertIs(is_images_of_units(plus, minus, mixed), len(images) == 1)

    def test_multiples_of_the_least_size(self):
        chance = random.Random(132)
        for plus, minus in WITH_UNITS:
            images = images_of_units(plus, minus)
            for many in (2, 3):
                if least_size(plus, minus) * many <= 64:
                    copies = moved(chance, [times_over(image, many) for image in images])
                    self.assertIs(is_images_of_units(plus, minus, copies), True)

    def test_values_near_images(self):
        chance = random.Random(133)
        for plus, minus in WITH_UNITS:
            images = moved(chance, images_of_units(plus, minus))
            self.assertIs(is_images_of_units(plus, minus, images), True)
            for _ in range(6):
                near = list(images)
                at = chance.randrange(len(near))
                step = chance.randrange(5)
                marks = list(near[at].marks)
                if step == 0:
                    near[at] = -near[at]
                elif step == 1:
                    place = chance.randrange(len(marks))
                    marks[place] = -marks[place]
                elif step == 2:
                    one, other = chance.randrange(len(marks)), chance.randrange(len(marks))
                    marks[one], marks[other] = marks[other], marks[one]
                elif step == 3:
                    other = chance.randrange(len(near))
                    near[at], near[other] = near[other], near[at]
                else:
                    near[at] = near[chance.randrange(len(near))]
                if step in (1, 2):
                    near[at] = SignTable(tuple(marks))
                right = are_images(plus, minus, [image.marks for image in near])
                self.assertIs(is_images_of_units(plus, minus, tuple(near)), right)

    def test_traces_of_products(self):
        # Of the least size: a product of images with another trace than 0 has a word of the centre.
        for plus, minus in WORLDS:
            images = images_of_units(plus, minus)
            for word in range(1, 2 ** (plus + minus)):
                table = SignTable.idle(least_size(plus, minus))
                for at in units_of(word):
                    table = table * images[at]
                if table.trace != 0:
                    self.assertIn(word, centre(plus, minus))

    def test_families(self):
        for many in range(1, 9):
            images = images_of_units(0, many)
            self.assertIs(is_family((SignTable.idle(images[0].size),) + images), True)
        for size in (2, 4, 8, 12, 16, 24, 32, 64):
            units = family(size)[1:9]
            self.assertIs(is_images_of_units(0, len(units), units), True)


class Wrong(Case, unittest.TestCase):
    def test_numbers_of_units(self):
        for value in NO_PASSED_INTEGERS + (-1, 9, 17, 10 ** 59):
            for call in CALLS:
                self.assert_number(value, call, value, None)
                self.assert_number(value, call, 8, value)
            for call in JUDGES:
                self.assert_number(value, call, value, None, ())
                self.assert_number(value, call, 0, value, ())
            self.assert_number(value, word_product, value, None, None, None)
            self.assert_number(value, word_product, 0, value, None, None)

    def test_masks(self):
        for value in NO_PASSED_INTEGERS + (-1, 8, 9, 10 ** 59):
            self.assert_number(value, word_product, 1, 2, value, None)
            self.assert_number(value, word_product, 2, 1, 7, value)
        self.assert_number(1, word_product, 0, 0, 1, 0)

    def test_more_than_eight(self):
        for plus, minus in product(range(9), repeat=2):
            if plus + minus > 8:
                for call in CALLS:
                    self.assert_kept(TooMany, "most", 8, call, plus, minus)
                for call in JUDGES:
                    self.assert_kept(TooMany, "most", 8, call, plus, minus, ())
                self.assert_kept(TooMany, "most", 8, word_product, plus, minus, 0, 2 ** (plus + minus) - 1)
                self.assert_number(2 ** (plus + minus), word_product, plus, minus, 0, 2 ** (plus + minus))
                self.assert_number(None, word_product, plus, minus, None, -1)

    def test_without_a_unit(self):
        self.assert_error(InvalidOperation, even_units, 0, 0)
        for value in ((), None, (3,)):
            self.assert_error(InvalidOperation, is_even_units, 0, 0, value)
        self.assert_same([centre(0, 0), world_of(0, 0), least_size(0, 0)], [(0,), ("ratios", 1), 1])

    def test_all_is_defined_in_its_module(self):
        for one in CALLS + JUDGES + (word_product,):
            self.assertEqual(one.__module__, worlds.__name__)


class NotTrue(Case, unittest.TestCase):
    """The sentences of [13.7]."""

    def test_worlds_with_equally_many_words_are_alike(self):
        self.assert_same([world_of(0, 2), world_of(2, 0)], [("fours", 1), ("ratios", 2)])

    def test_the_least_size_grows(self):
        self.assert_same([least_size(0, 2), least_size(0, 3)], [4, 4])

    def test_images_can_be_continued(self):
        turn = SignTable((2, -1))
        self.assertIs(is_images_of_units(0, 1, (turn,)), True)
        tables = [SignTable((a * x, b * y)) for x, y in permutations((1, 2)) for a, b in product((1, -1), repeat=2)]
        self.assertEqual([is_images_of_units(0, 2, (turn, table)) for table in tables], [False] * 8)
        # Not even of a size of which there are images of all units: the trace of this product bars a fourth one.
        three = tuple([times_over(image, 2) for image in images_of_units(0, 3)])
        self.assertEqual(abs((three[0] * three[1] * three[2]).trace), 8)
        self.assertEqual([least_size(0, 4), three[0].size], [8, 8])

    def test_ratios_are_no_numbers_of_units(self):
        self.assert_number(Ratio(1), centre, Ratio(1), 0)


if __name__ == "__main__":
    unittest.main()
