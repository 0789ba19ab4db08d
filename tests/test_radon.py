"""[4.1] to [4.5] and [0.10]: rho and families."""

import random
import unittest
from itertools import permutations, product

from squaretimes.base.ratios import Ratio
from squaretimes.errors import InvalidFamily, InvalidOperation, TooMany
from squaretimes.form import radon
from squaretimes.form.formulas import Formula
from squaretimes.form.radon import (
    MAX_FAMILY, MAX_FURTHER, MAX_GROWN, MAX_NUMBER, bar, broken_pair, copied, family, formula_of_family, further, grown,
    is_family, rho, word_of,
)
from squaretimes.form.signs import SignTable
from tests.helper import NO_INTEGERS, NO_RATIOS, Case

ONE, I, J, K = [SignTable(marks) for marks in ((1, 2, 3, 4), (2, -1, 4, -3), (3, -4, -1, 2), (-4, -3, 2, 1))]
FAMILY = (ONE, I, J, K)


def plain_rho(number):
    """By [0.10], with a search for a, b and c."""
    found = set()
    for a in range(9):
        for b in range(4):
            if number % (16 ** a * 2 ** b) == 0 and (number // (16 ** a * 2 ** b)) % 2:
                found.add(8 * a + 2 ** b)
    (told,) = found
    return told


def product_marks(one, other):
    return [other[abs(mark) - 1] * (1 if mark > 0 else -1) for mark in one]


def turned_marks(marks):
    found = [0] * len(marks)
    for at, mark in enumerate(marks):
        found[abs(mark) - 1] = at + 1 if mark > 0 else -(at + 1)
    return found


def keep(one, other):
    """Whether two tables keep the rule of [4.1]."""
    ahead = product_marks(one, turned_marks(other))
    behind = product_marks(other, turned_marks(one))
    return ahead == [-mark for mark in behind]


def plain_pair(marks):
    """The least pair by [4.1], None for a family."""
    if list(marks[0]) != list(range(1, len(marks[0]) + 1)):
        return 0, 0
    for i in range(len(marks)):
        for j in range(i + 1, len(marks)):
            if not keep(marks[i], marks[j]):
                return i, j
    return None


def all_sign_marks(size):
    """The marks of all sign tables of a small size."""
    for order in permutations(range(1, size + 1)):
        for signs in product((1, -1), repeat=size):
            yield tuple([sign * at for sign, at in zip(signs, order)])


def all_skew_marks(size):
    """The marks of all sign tables that are, turned, their opposites."""
    def paired(left):
        if not left:
            yield {}
            return
        first = left[0]
        for other in left[1:]:
            for rest in paired([at for at in left if at not in (first, other)]):
                for sign in (1, -1):
                    yield {**rest, first: sign * (other + 1), other: -sign * (first + 1)}
    for marks in paired(list(range(size))):
        yield tuple([marks[at] for at in range(size)])


def further_marks(members, candidates):
    return [marks for marks in candidates if all([keep(member.marks, marks) for member in members])]


def families_of(size, candidates):
    """All families of a small size."""
    found = [(SignTable.idle(size),)]
    waiting = list(found)
    while waiting:
        members = waiting.pop()
        for marks in further_marks(members, candidates):
            found.append(members + (SignTable(marks),))
            waiting.append(found[-1])
    return found


def some_families():
    """Families of many sizes, full ones and others."""
    chance = random.Random(41)
    found = [(SignTable.idle(size),) for size in (1, 2, 3, 5, 8, 16, 33, 64)]
    for size in (2, 4, 6, 8, 12, 16, 20, 24, 32, 40, 48, 64):
        members = family(size)
        found.append(members)
        units = list(members[1:])
        chance.shuffle(units)
        many = chance.randrange(len(units))
        found.append((members[0],) + tuple([unit if chance.randrange(2) else -unit for unit in units[:many]]))
        moved = SignTable(tuple([chance.choice((1, -1)) * at for at in chance.sample(range(1, size + 1), size)]))
        found.append(tuple([moved * member * moved.turned() for member in members]))
    return found + [copied(FAMILY, 3), (ONE, J), (ONE, K, I), (ONE, I, J, -K)]


# Values that are no tuples of 1 to 64 sign tables of one size.
NO_TUPLES = NO_RATIOS + (
    ONE, [ONE], [ONE, I], (ONE, [I]), (ONE, None), (ONE, (2, -1, 4, -3)), (ONE, SignTable.idle(3)), ((ONE,),),
    (SignTable.idle(2), ONE), (ONE, Ratio(1)), (ONE.table(), I.table()), (ONE,) * 65, {0: ONE}, (True,), ((1, 2),),
)


class Numbers(Case, unittest.TestCase):
    def test_constants(self):
        self.assert_same([MAX_NUMBER, MAX_FAMILY, MAX_FURTHER, MAX_GROWN], [10 ** 9, 64, 8, 4])

    def test_small_ones(self):
        for number in range(1, 3000):
            self.assert_same(rho(number), plain_rho(number))

    def test_many_twos(self):
        for twos in range(30):
            for odd in (1, 3, 5, 7, 99, 12345):
                if 2 ** twos * odd <= 10 ** 9:
                    self.assert_same(rho(2 ** twos * odd), plain_rho(2 ** twos * odd))
        self.assert_same([rho(2 ** 29), rho(16 ** 7), rho(10 ** 9), rho(10 ** 9 - 1)], [58, 57, 18, 1])

    def test_bounds(self):
        for value in NO_INTEGERS + (0, -1, -16, 10 ** 9 + 1, 10 ** 99, -10 ** 99):
            self.assert_number(value, rho, value)


class Families(Case, unittest.TestCase):
    def test_told_families(self):
        for size in range(1, 65):
            told = family(size)
            self.assertIs(type(told), tuple)
            self.assert_same((len(told), told[0].size), (rho(size), size))
            self.assertEqual({type(member) for member in told}, {SignTable})
            self.assertIsNone(plain_pair([member.marks for member in told]))
            self.assert_same((is_family(told), broken_pair(told)), (True, None))

    def test_sizes_beyond(self):
        for value in NO_INTEGERS + (0, -1, 65, 10 ** 99):
            self.assert_number(value, family, value)

    def test_what_holds_for_units(self):
        for members in some_families():
            idle = members[0]
            self.assert_same(is_family(members), True)
            for at, unit in enumerate(members[1:]):
                self.assertTrue(unit.turned() == -unit and unit * unit == -idle)
                for other in members[at + 2:]:
                    self.assertTrue(unit * other == -(other * unit))
            for row in range(idle.size):
                self.assertEqual(len({abs(member.marks[row]) for member in members}), len(members))

    def test_near_families(self):
        chance = random.Random(42)
        for members in some_families():
            for _ in range(6):
                changed = list(members)
                at, other = chance.randrange(len(changed)), chance.randrange(len(changed))
                kind = chance.randrange(5)
                if kind == 0:
                    changed[0] = -changed[0]
                elif kind == 1:
                    changed[at], changed[other] = changed[other], changed[at]
                elif kind == 2:
                    changed[at] = changed[at].turned()
                elif kind == 3:
                    changed.append(changed[at])
                else:
                    marks = list(changed[at].marks)
                    place = chance.randrange(len(marks))
                    marks[place] = -marks[place]
                    changed[at] = SignTable(tuple(marks))
                wanted = plain_pair([member.marks for member in changed])
                self.assert_same(broken_pair(tuple(changed)), wanted)
                self.assert_same(is_family(tuple(changed)), wanted is None)

    def test_the_least_pair(self):
        self.assert_same([broken_pair((I, J)), broken_pair((-ONE,)), broken_pair((I, I))], [(0, 0)] * 3)
        self.assert_same([broken_pair((ONE, I, J, I)), broken_pair((ONE, I, I, J, J))], [(1, 3), (1, 2)])
        self.assert_same([broken_pair((ONE, ONE)), broken_pair((ONE, I, J, K, I * J))], [(0, 1), (3, 4)])
        self.assert_same(broken_pair((ONE,) * 64), (0, 1))
        self.assert_same(broken_pair(family(64) + (family(64)[5],) * 52), (5, 12))

    def test_single_tables(self):
        for size in range(1, 4):
            for marks in all_sign_marks(size):
                self.assert_same(broken_pair((SignTable(marks),)), None if SignTable(marks).is_idle else (0, 0))

    def test_what_is_no_such_tuple(self):
        for value in NO_TUPLES:
            self.assert_error(InvalidFamily, broken_pair, value)
            self.assert_same(is_family(value), False)
            for call in (grown, bar, further, formula_of_family):
                self.assert_error(InvalidFamily, call, value)
            self.assert_error(InvalidFamily, copied, value, 2)
            self.assert_error(InvalidFamily, word_of, value, ())

    def test_what_is_no_family(self):
        for value in ((I, J), (ONE, ONE), (ONE, I, I), (-ONE,), (ONE, SignTable((2, 1, 4, 3)))):
            for call in (grown, bar, further, formula_of_family):
                self.assert_error(InvalidFamily, call, value)
            self.assert_error(InvalidFamily, copied, value, 65)
            self.assert_error(InvalidFamily, word_of, value, None)


class Greater(Case, unittest.TestCase):
    def test_copied(self):
        for members in some_families():
            size = members[0].size
            for many in range(1, 64 // size + 1):
                more = copied(members, many)
                self.assert_same(len(more), len(members))
                for member, copy in zip(members, more):
                    wanted = [
                        mark + at * size if mark > 0 else mark - at * size
                        for at in range(many) for mark in member.marks
                    ]
                    self.assert_same(copy.marks, tuple(wanted))
                self.assert_same(is_family(more), True)

    def test_copied_beyond(self):
        for members in some_families():
            size = members[0].size
            beyond = 64 // size + 1
            if beyond <= 64:
                self.assert_kept(TooMany, "most", 64, copied, members, beyond)
                self.assert_kept(TooMany, "most", 64, copied, members, 64)
        self.assert_same(copied((SignTable((1,)),), 64)[0].size, 64)

    def test_copied_refuses_numbers(self):
        for value in NO_INTEGERS + (0, -1, 65, 10 ** 99):
            self.assert_number(value, copied, FAMILY, value)

    def test_grown(self):
        chance = random.Random(43)
        for size in (1, 2, 3, 4):
            for members in families_of(size, list(all_skew_marks(size))):
                if len(members) < 3 or chance.randrange(4) == 0:
                    more = grown(members)
                    self.assert_same((len(more), more[0].size), (len(members) + 8, 16 * size))
                    self.assertIsNone(plain_pair([member.marks for member in more]))

    def test_grown_beyond(self):
        for members in (family(5), (SignTable.idle(5),), family(8), family(64), copied(FAMILY, 16)):
            self.assert_kept(TooMany, "most", 4, grown, members)

    def test_further_of_small_sizes(self):
        for size in range(1, 5):
            candidates = list(all_sign_marks(size))
            for members in families_of(size, list(all_skew_marks(size))):
                wanted = further_marks(members, candidates)
                told = further(members)
                if told is None:
                    self.assertEqual(wanted, [])
                else:
                    self.assertIn(told.marks, wanted)
                    self.assert_same(is_family(members + (told,)), True)

    def test_further_of_other_sizes(self):
        chance = random.Random(44)
        for size in (5, 6, 7, 8):
            candidates = list(all_skew_marks(size))
            ends = set()
            for _ in range(40):
                members = (SignTable.idle(size),)
                left = further_marks(members, candidates)
                while left:
                    told = further(members)
                    self.assertIn(told.marks, left)
                    members = members + (SignTable(chance.choice(left)),)
                    left = further_marks(members, left)
                self.assertIsNone(further(members))
                ends.add(len(members))
            self.assertEqual(ends, {5: {1}, 6: {2}, 7: {1}, 8: {4, 8}}[size])

    def test_further_beyond(self):
        for members in ((SignTable.idle(9),), family(12), family(64)):
            self.assert_kept(TooMany, "most", 8, further, members)
        self.assertIsNone(further(family(8)))

    def test_formula_of_family(self):
        for members in some_families():
            size = members[0].size
            if size > 32:
                self.assert_kept(TooMany, "most", 32, formula_of_family, members)
            else:
                formula = formula_of_family(members)
                self.assertIs(type(formula), Formula)
                self.assert_same(formula.sizes, (len(members), size, size))
                self.assert_same(formula.tables, tuple([member.table() for member in members]))
        self.assert_same(formula_of_family(family(32)).sizes, (10, 32, 32))


class Words(Case, unittest.TestCase):
    def test_products(self):
        chance = random.Random(45)
        for members in some_families():
            for many in (0, 1, 2, 3, 10, 64):
                indices = tuple([chance.randrange(len(members)) for _ in range(many)])
                marks = list(range(1, members[0].size + 1))
                for index in indices:
                    marks = product_marks(marks, members[index].marks)
                told = word_of(members, indices)
                self.assertIs(type(told), SignTable)
                self.assert_same(told.marks, tuple(marks))

    def test_repeated_indices(self):
        self.assertTrue(word_of(FAMILY, (1, 1)) == -ONE and word_of(FAMILY, (0, 0, 0)) == ONE)
        self.assertTrue(word_of(FAMILY, (1,) * 64) == ONE and word_of(FAMILY, (2, 1)) == -word_of(FAMILY, (1, 2)))

    def test_errors(self):
        wrong = NO_INTEGERS + (
            1, [0], [0, 1], (-1,), (4,), (0, 4), (True,), (0, False), (None,), ("0",), (0.0,), ((0,),), (10 ** 99,),
            (0,) * 65, (1,) * 66, (Ratio(1),), (ONE,), ONE,
        )
        for value in wrong:
            if value not in ((), (1,)):
                self.assert_error(InvalidOperation, word_of, FAMILY, value)


class Barred(Case, unittest.TestCase):
    def test_bars(self):
        for members in some_families():
            units = members[1:]
            marks = list(range(1, members[0].size + 1))
            for unit in units:
                marks = product_marks(marks, unit.marks)
            whole = SignTable(tuple(marks))
            barred = len(units) % 4 == 3 and whole.trace != 0
            self.assertTrue(bar(members) == whole if barred else bar(members) is None)
            if len(units) % 4 == 3:
                self.assertTrue(whole.turned() == whole and (whole * whole).is_idle)
            elif units:
                self.assert_same(whole.trace, 0)
            if barred and members[0].size <= 8:
                self.assertIsNone(further(members))

    def test_numbers_of_units(self):
        for size in (1, 2, 8, 64):
            self.assertIsNone(bar((SignTable.idle(size),)))
        self.assertTrue(bar(FAMILY) == -ONE)
        self.assertTrue(bar((ONE, I, J, -K)) == ONE)
        eight = family(8)
        self.assert_same([bar(eight[:many]) is None for many in (1, 2, 3, 5, 6, 7)], [True] * 6)
        self.assert_same(abs(bar(eight).trace), 8)

    def test_three_units_that_are_not_barred(self):
        one = SignTable.idle(8)
        i, j, k = [joined(first, first) for first in (I, J, K)]
        other = (one, i, j, joined(K, -K))
        self.assert_same([is_family(other), word_of(other, (1, 2, 3)).trace], [True, 0])
        self.assertIsNone(bar(other))
        self.assert_same(further(other) is None, False)
        self.assert_same([bar((one, i, j, k)).trace, further((one, i, j, k))], [-8, None])

    def test_eleven_units(self):
        self.assert_same(len(family(64)), 12)
        self.assert_same(abs(bar(family(64)).trace), 64)


def joined(one, other):
    """The sign table with two others along the diagonal."""
    behind = [mark + one.size if mark > 0 else mark - one.size for mark in other.marks]
    return SignTable(one.marks + tuple(behind))


class NotTrue(Case, unittest.TestCase):
    def test_less_members_than_rho_can_be_all(self):
        twice = copied(FAMILY, 2)
        self.assert_same([len(twice), rho(8), bar(twice).trace, further(twice)], [4, 8, -8, None])

    def test_further_ones_can_lead_to_a_bar(self):
        one, i, j, k = copied(FAMILY, 2)
        self.assertIsNone(bar((one, i, j)))
        self.assert_same([is_family((one, i, j, k)), further((one, i, j, k))], [True, None])

    def test_rho_does_not_grow_with_the_number(self):
        self.assertTrue(rho(8) >= rho(9) and 8 < 9)

    def test_the_product_of_two_members_is_no_member(self):
        members = (ONE, I, J)
        self.assert_same([is_family(members), word_of(members, (1, 2)) in members], [True, False])

    def test_example(self):
        self.assertEqual(
            [[rho(number) for number in (1, 2, 3, 4, 8, 16, 32, 64, 48)], len(family(8)), family(12)[0].is_idle,
             len(grown(family(2)))],
            [[1, 2, 1, 4, 8, 9, 10, 12, 9], 8, True, 10])
        self.assertEqual(
            [is_family(FAMILY), is_family((ONE, I, J, -K)), broken_pair((ONE, I, J, I)), broken_pair((I, J)), I * J == K,
             broken_pair((ONE, SignTable((2, 1, 4, 3))))],
            [True, True, (1, 3), (0, 0), True, (0, 1)])
        self.assertEqual(
            [word_of(FAMILY, (1, 2, 3)) == -ONE, bar(FAMILY) == -ONE, bar((ONE, I, J)), word_of(FAMILY, (2, 1)) == -K,
             word_of(FAMILY, ()) == ONE],
            [True, True, None, True, True])
        twice = copied(FAMILY, 2)
        self.assertEqual(
            [twice[1].marks, len(twice), rho(8), bar(twice).trace, further(twice), further((ONE, I, J)) in (K, -K),
             formula_of_family(FAMILY).sizes],
            [(2, -1, 4, -3, 6, -5, 8, -7), 4, 8, -8, None, True, (4, 4, 4)])

    def test_all_is_defined_in_the_file(self):
        for one in (rho, is_family, broken_pair, family, copied, grown, word_of, bar, further, formula_of_family):
            self.assertEqual(one.__module__, radon.__name__)


if __name__ == "__main__":
    unittest.main()
