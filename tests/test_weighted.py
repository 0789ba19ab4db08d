"""Light vectors: the search that nought pairs, images and likenesses stand on."""

import random
import unittest

from squaretimes.square.weighted import MOST_LIGHT, light_vector, without_squares
from tests.helper import Case, fraction


class Squares(Case, unittest.TestCase):
    def test_without_squares(self):
        wanted = {1: (1, 1), -1: (-1, 1), 4: (1, 2), 12: (3, 2), -72: (-2, 6), 30: (30, 1), 27000: (30, 30), 997 ** 2: (1, 997)}
        for number, parts in wanted.items():
            self.assert_same(without_squares(number), parts)
        for number in list(range(-2000, 0)) + list(range(1, 2000)):
            rest, root = without_squares(number)
            self.assertEqual(rest * root * root, number)
            self.assertFalse([one for one in range(2, 45) if rest % (one * one) == 0])

    def test_great_primes_stay(self):
        self.assert_same(without_squares(1009 ** 2), (1009 ** 2, 1))


class Light(Case, unittest.TestCase):
    def assert_light(self, weights, target, many, free):
        vector, squares, order = light_vector(weights, target, many, free)
        total = sum([weight * fraction(entry) ** 2 for weight, entry in zip(weights, vector)])
        self.assertEqual(total * target, sum([root * root for root in squares]))
        self.assertEqual((len(vector), len(squares), sorted(order)), (len(weights), many, list(range(len(weights)))))
        self.assertGreaterEqual([bool(entry) for entry in vector].count(False), free)
        part = 0
        for at in order:
            part = part + weights[at] * fraction(vector[at]) ** 2
            self.assertTrue(part or not vector[at])
        self.assertTrue(part)
        return vector

    def test_all_that_is_asked(self):
        chance = random.Random(121)
        for _ in range(300):
            size = chance.randint(4, 8)
            weights = [chance.choice((1, -1)) * chance.randint(1, 30) for _ in range(size)]
            if max(weights) > 0:
                self.assert_light(weights, chance.randint(1, 30), 1, size - 4)
            if min(weights) < 0:
                self.assert_light(weights, -chance.randint(1, 30), 1, size - 4)
            self.assert_light([abs(weight) for weight in weights], 1, 2, 0)

    def test_heavy_weights_are_not_free(self):
        heavy = MOST_LIGHT + 1
        vector = self.assert_light((heavy, 2, 3, 5, 7), 1, 1, 1)
        self.assertGreaterEqual([bool(entry) for entry in vector[1:]].count(False), 1)

    def test_the_lightest_one_alone(self):
        vector, squares, _ = light_vector((30, 1, 29, 28, 30), 1, 1, 1)
        self.assertEqual(([fraction(entry) for entry in vector], squares), ([0, 1, 0, 0, 0], (1,)))


if __name__ == "__main__":
    unittest.main()
