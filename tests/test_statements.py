"""[0.11] to [0.17]: the main statements, over the whole program."""

import random
import unittest
from itertools import product

from squaretimes.base.ratios import Ratio
from squaretimes.base.tables import is_table, sum_of_squares
from squaretimes.colour.bars import is_let, told_formula
from squaretimes.colour.colours import Colours, colours_of, is_going, is_signed, signed, xor_colours
from squaretimes.double.doubled import Doubled, Element, associator, is_nought_pair, nought_pair
from squaretimes.double.eights import are_alike, images, is_images
from squaretimes.errors import InvalidOperation, InvalidRatio
from squaretimes.fold.folded import folded
from squaretimes.form.formulas import is_formula
from squaretimes.form.radon import bar, copied, family, formula_of_family, further, is_family, rho
from squaretimes.square.sums import is_open_pair, is_sum, open_pair
from squaretimes.text.formats import read_element, read_formula, write_element, write_formula
from squaretimes.times.areas import area_tables, is_area_product
from squaretimes.times.handed import is_recognised, recognised, times_of_algebra
from squaretimes.whole.eights import WholeOrder, divided, ideal_paper, is_divided, is_ideal_paper
from squaretimes.word.words import greatest_let, words_formula
from squaretimes.word.worlds import images_of_units, is_images_of_units, least_size, world_of
from tests.helper import Case, small_row

EIGHT, SIXTEEN = Doubled((-1, -1, -1)), Doubled((-1, -1, -1, -1))
ORDER = WholeOrder(1)


class Kept(Case, unittest.TestCase):
    """The points [0.11] to [0.16]."""

    def test_sizes(self):
        for size in range(1, 33):
            formula = formula_of_family(family(size))
            self.assertEqual(formula.sizes, (rho(size), size, size))
            colours, signs = colours_of(formula.cut(tuple(range(min(rho(size), 16))), tuple(range(min(size, 16)))))
            self.assertIs(is_signed(colours, ("signs", signs)), True)
        for many in (1, 2, 3):
            formula = words_formula(greatest_let(many), tuple(range(2 ** many)), many)
            self.assertEqual(formula.sizes, (rho(2 ** many), 2 ** many, 2 ** many))

    def test_multiplications_with_a_one(self):
        for squares in ((), (-1,), (2, -3), (-1, -1, -1), (5, -1, 2)):
            times = times_of_algebra(Doubled(squares))
            self.assertEqual([times.is_composing, times.dimension], [True, 2 ** len(squares)])
            self.assertIs(is_recognised(times, recognised(times)), True)
        definite, other = [Doubled((-2, -3, -5)), Doubled((-1, -1, -7))], [Doubled((1, 1, 1)), Doubled((-3, 2, -5))]
        for one, two in product(definite + other, repeat=2):
            alike = (one in definite) == (two in definite)
            self.assertIs(are_alike(one, two), alike)
            if alike:
                self.assertIs(is_images(one, two, images(one, two)), True)
        self.assertEqual([is_area_product(area_tables(size)) for size in (1, 3, 7)], [True] * 3)

    def test_fractions_of_the_unknowns(self):
        chance = random.Random(191)
        for size in range(1, 17):
            one, other = small_row(chance, size), small_row(chance, size)
            if size in (1, 2, 4, 8, 16):
                product_of_squares = sum_of_squares(one) * sum_of_squares(other)
                self.assertEqual(sum_of_squares(folded(one, other)), product_of_squares)
            else:
                self.assert_error(InvalidRatio, folded, one, other)
            self.assertEqual(open_pair(size) is None, size != 3)

    def test_colours_and_signs(self):
        chance = random.Random(192)
        kinds = set()
        for _ in range(30):
            firsts, seconds = [tuple(sorted(chance.sample(range(20), chance.randrange(8, 17)))) for _ in range(2)]
            colours = xor_colours(firsts, seconds)
            word, members = signed(colours)
            kinds.add(word)
            self.assertIs(is_signed(colours, (word, members)), True)
            if word == "signs" and colours.many <= 32:
                self.assertEqual(colours.formula(members).sizes, (len(firsts), len(seconds), colours.many))
        self.assertEqual(kinds, {"signs", "odd"})

    def test_units(self):
        for plus, minus in product(range(9), repeat=2):
            if plus + minus <= 8:
                images_told = images_of_units(plus, minus)
                self.assertIs(is_images_of_units(plus, minus, images_told), True)
                if plus >= 1 and minus >= 1:
                    word, size = world_of(plus - 1, minus - 1)
                    self.assert_same(world_of(plus, minus), (word, 2 * size))
                    self.assertEqual(least_size(plus, minus), 2 * least_size(plus - 1, minus - 1))

    def test_whole_eights(self):
        for one, other in product(ORDER, repeat=2):
            self.assertIn(one * other, ORDER)
            self.assertIs(is_divided(ORDER, one, other, divided(ORDER, one, other)), True)
        self.assertEqual(len(ORDER.units()), ORDER.count_of_norm(1))
        for unit in ORDER.units()[::31]:
            self.assertIs(is_ideal_paper(ORDER, unit, ((EIGHT.one(), EIGHT.one(), unit.mate()),)), True)
            self.assertIs(is_ideal_paper(ORDER, unit, ideal_paper(ORDER, unit)), True)

    def test_what_one_stage_makes_another_one_takes(self):
        for formula in (told_formula(3, 5), told_formula(9, 9)):
            self.assertTrue(read_formula(write_formula(formula)) == formula)
            colours, signs = colours_of(formula)
            self.assertTrue(Colours(colours.rows).formula(signs) == formula)
        for one in ORDER.of_norm(2)[::97]:
            self.assertTrue(read_element(write_element(one)) == one)
        for row in formula_of_family(family(4)).tables:
            self.assertIs(is_table(row), True)


class NotTrue(Case, unittest.TestCase):
    """The sentences of [0.17]."""

    def test_from_n_squares_to_less(self):
        self.assertIsNone(open_pair(4))
        self.assertIs(is_open_pair(3, open_pair(3)), True)
        self.assertEqual([is_sum(3, 3), is_sum(21, 3), is_sum(63, 3), is_sum(63, 4)], [True, True, False, True])

    def test_families_can_be_made_greater(self):
        members = copied(family(4), 2)
        self.assertEqual([is_family(members), len(members), members[0].size, rho(8)], [True, 4, 8, 8])
        self.assertIs(bar(members) == members[1] * members[2] * members[3], True)
        self.assertIn(bar(members).trace, (8, -8))
        self.assertIsNone(further(members))

    def test_eights_of_unlike_squares_are_of_unlike_kinds(self):
        other = Doubled((-2, -3, -5))
        self.assertIs(are_alike(EIGHT, other), True)
        self.assertIs(is_images(EIGHT, other, images(EIGHT, other)), True)

    def test_eights_need_no_brackets(self):
        units = EIGHT.units()
        self.assertTrue(associator(units[1], units[2], units[4]))

    def test_each_table_of_colours_can_be_signed(self):
        colours = xor_colours(tuple(range(16)), tuple(range(16)))
        self.assertIs(is_going(colours.rows), True)
        word, lot = signed(colours)
        self.assertEqual(word, "odd")
        self.assertIs(is_signed(colours, (word, lot)), True)

    def test_formulas_of_all_sizes_that_are_let(self):
        self.assert_same([is_let(10, 16, 16), rho(16)], [True, 9])
        # A formula of nine tables is there.
        self.assertIs(is_formula(formula_of_family(family(16)).tables), True)

    def test_sixteens_multiply_norms(self):
        one, other = nought_pair(SIXTEEN)
        self.assertIs(is_nought_pair(SIXTEEN, (one, other)), True)
        self.assertEqual((one * other).norm, 0)
        self.assertTrue(one.norm * other.norm != 0)
        self.assert_error(InvalidOperation, lambda: one * EIGHT.one())

    def test_eights_with_integers_alone_divide_with_rest(self):
        one, other = Element(EIGHT, (1,) * 8), EIGHT.one().scaled(2)
        # The rest with integers alone is odd at each index: its norm is at least 8, and that of the divisor is 4.
        for entries in product((-1, 0, 1, 2), repeat=8):
            if any(entry in (-1, 2) for entry in entries[1:]):
                continue
            rest = one - Element(EIGHT, entries) * other
            self.assertTrue(rest.norm.compared(other.norm) > 0)
        quotient, rest = divided(ORDER, one, other)
        self.assertTrue(quotient * other + rest == one)
        self.assertTrue((rest.norm * 2).compared(other.norm) <= 0)
        self.assertEqual(quotient.bottom, 2)
        self.assertEqual(rest.norm, Ratio(0))


if __name__ == "__main__":
    unittest.main()
