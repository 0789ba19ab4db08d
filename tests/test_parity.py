"""[1.4]: questions of parity."""

import random
import unittest

from squaretimes.base import parity
from squaretimes.base.parity import MAX_ROWS, is_solved, solved
from squaretimes.base.ratios import Ratio
from squaretimes.errors import InvalidOperation
from squaretimes.form.signs import SignTable
from tests.helper import NO_INTEGERS, Case


def is_right(rows, sides, answer):
    """Whether an answer is one of [1.4], straight from its words."""
    word, members = answer
    if list(members) != sorted(set(members)):
        return False
    if word == "solution":
        met = all([len(set(row) & set(members)) % 2 == side for row, side in zip(rows, sides)])
        return met and set(members) <= set(range(1000))
    lot = [rows[index] for index in members]
    places = {place for row in lot for place in row}
    even = all([sum([place in row for row in lot]) % 2 == 0 for place in places])
    return word == "odd" and even and sum([sides[index] for index in members]) % 2 == 1


def any_rows(chance, many, places, most):
    """Rows of at most so many places."""
    return tuple([tuple(sorted(chance.sample(range(places), chance.randrange(0, most + 1)))) for _ in range(many)])


def any_sides(chance, many):
    return tuple([chance.randrange(2) for _ in range(many)])


class Answers(Case, unittest.TestCase):
    def assert_answered(self, rows, sides, word=None):
        answer = solved(rows, sides)
        self.assertIs(type(answer), tuple)
        self.assertEqual(len(answer), 2)
        self.assertIn(answer[0], ("solution", "odd"))
        self.assertIs(type(answer[1]), tuple)
        self.assertTrue(all([type(member) is int for member in answer[1]]))
        self.assertLessEqual(len(answer[1]), 1000 if answer[0] == "solution" else 1001)
        self.assertTrue(is_right(rows, sides, answer), (rows, sides, answer))
        self.assertIs(is_solved(rows, sides, answer), True)
        if word:
            self.assertEqual(answer[0], word)
        return answer

    def test_max_rows(self):
        self.assert_same(MAX_ROWS, 2000)

    def test_no_rows(self):
        self.assert_answered((), (), "solution")

    def test_empty_rows(self):
        self.assert_answered(((),), (0,), "solution")
        self.assert_same(solved(((),), (1,)), ("odd", (0,)))
        self.assert_same(solved(((), (0,), ()), (0, 1, 1)), ("odd", (2,)))
        self.assert_answered(((), (), ()), (0, 0, 0), "solution")

    def test_a_row_twice(self):
        self.assert_same(solved(((3, 7), (3, 7)), (0, 1)), ("odd", (0, 1)))
        self.assert_same(solved(((3, 7), (3, 7)), (1, 0)), ("odd", (0, 1)))
        self.assert_answered(((3, 7), (3, 7)), (1, 1), "solution")
        self.assert_answered(((3, 7), (3, 7)), (0, 0), "solution")

    def test_places_to_999(self):
        self.assert_same(solved(((999,),), (1,)), ("solution", (999,)))
        self.assert_same(solved(((999,), (0,), (0, 999)), (1, 1, 1)), ("odd", (0, 1, 2)))
        self.assert_answered((tuple(range(1000)),), (1,), "solution")

    def test_all_small_questions(self):
        rows = ((), (0,), (1,), (2,), (0, 1), (0, 2), (1, 2), (0, 1, 2))
        words = {"solution": 0, "odd": 0}
        for one in rows:
            for other in rows:
                for third in rows:
                    for number in range(8):
                        question = ((one, other, third), (number & 1, number >> 1 & 1, number >> 2))
                        words[self.assert_answered(*question)[0]] += 1
        self.assertTrue(words["solution"] and words["odd"])

    def test_never_both(self):
        chance = random.Random(9)
        for _ in range(200):
            many, places = chance.randrange(0, 6), chance.randrange(1, 5)
            rows, sides = any_rows(chance, many, places, places), any_sides(chance, many)
            told = [[at for at in range(6) if number >> at & 1] for number in range(64)]
            solutions = [is_right(rows, sides, ("solution", one)) for one in told]
            lots = [max(one, default=-1) < many and is_right(rows, sides, ("odd", one)) for one in told]
            self.assertNotEqual(any(solutions), any(lots))
            for one, solution, lot in zip(told, solutions, lots):
                self.assert_same(is_solved(rows, sides, ("solution", tuple(one))), solution)
                self.assert_same(is_solved(rows, sides, ("odd", tuple(one))), lot)

    def test_many_rows_with_few_places(self):
        chance = random.Random(10)
        for _ in range(20):
            rows = any_rows(chance, 200, 8, 8)
            chosen = set(chance.sample(range(8), 4))
            sides = tuple([len(chosen & set(row)) % 2 for row in rows])
            self.assert_answered(rows, sides, "solution")
            at = chance.randrange(200)
            self.assert_answered(rows, sides[:at] + (1 - sides[at],) + sides[at + 1:])

    def test_few_rows_with_many_places(self):
        chance = random.Random(11)
        for _ in range(50):
            rows = any_rows(chance, 30, 1000, 40)
            self.assert_answered(rows, any_sides(chance, 30))

    def test_2000_rows(self):
        chance = random.Random(12)
        rows = any_rows(chance, 2000, 1000, 12)
        chosen = set(chance.sample(range(1000), 500))
        sides = tuple([len(chosen & set(row)) % 2 for row in rows])
        self.assert_answered(rows, sides, "solution")
        self.assert_answered(rows, sides[:-1] + (1 - sides[-1],), "odd")

    def test_the_longest_lot_and_the_longest_solution(self):
        ones = tuple([(place,) for place in range(1000)])
        every = tuple(range(1000))
        self.assert_same(solved(ones, (1,) * 1000), ("solution", every))
        self.assert_same(solved(ones + (every,), (1,) * 1001), ("odd", tuple(range(1001))))
        doubled = tuple([row for row in ones for _ in range(2)])
        self.assert_answered(doubled, (1,) * 2000, "solution")
        steps = tuple([(place, place + 1) for place in range(999)]) + ((0, 999),)
        self.assert_same(solved(steps, (1,) + (0,) * 999), ("odd", tuple(range(1000))))


class Judged(Case, unittest.TestCase):
    ROWS, SIDES = ((0, 1), (1, 2), (0, 2), (3,), (3, 999)), (1, 1, 0, 1, 0)
    ODD = (1, 1, 1, 1, 0)

    def assert_judged(self, sides, value, wanted):
        self.assert_same(is_solved(self.ROWS, sides, value), wanted)

    def test_right_answers(self):
        for value in (("solution", (1, 3, 999)), ("solution", (0, 2, 3, 999)), ("solution", (1, 3, 4, 5, 998, 999))):
            self.assert_judged(self.SIDES, value, True)
        self.assert_judged(self.ODD, ("odd", (0, 1, 2)), True)

    def test_places_and_indices_that_are_changed_left_out_or_put_in(self):
        for members in (
            (2, 3, 999), (1, 3, 998), (1, 3), (3, 999), (1, 999), (1, 2, 3, 999), (0, 1, 3, 999), (), (1, 3, 999, 1000),
            (1, 3, 999, 10 ** 99), (-1, 1, 3, 999),
        ):
            self.assert_judged(self.SIDES, ("solution", members), False)
        for members in (
            (0, 1), (0, 2), (1, 2), (0, 1, 3), (0, 1, 2, 3), (0, 1, 2, 4), (), (0, 1, 2, 5), (-1, 0, 1), (-5, 1, 2),
            (3, 4), (0, 1, 2, 10 ** 99),
        ):
            self.assert_judged(self.ODD, ("odd", members), False)

    def test_another_sequence(self):
        for members in ((3, 1, 999), (999, 3, 1), (1, 3, 3, 3, 999), (1, 1, 1, 3, 999)):
            self.assert_judged(self.SIDES, ("solution", members), False)
        for members in ((2, 1, 0), (0, 2, 1), (0, 0, 0, 1, 2), (0, 1, 2, 3, 3)):
            self.assert_judged(self.ODD, ("odd", members), False)

    def test_another_word_or_kind(self):
        members = (1, 3, 999)
        self.assertTrue(is_solved(self.ROWS, self.SIDES, ("solution", members)))
        for value in (
            ("odd", members), ("Solution", members), ("solution ", members), ("", members), (None, members),
            (1, members), (("solution",), members), ["solution", members], ("solution", list(members)),
            ("solution", members, ()), ("solution",), (members, "solution"), members, "solution", (), None, True, 1,
            {"solution": members}, [], {}, ("solution", None), ("solution", 1), ("solution", "139"),
            ("solution", {1: 3}), ("solution", (members,)), ("solution", (1, 3, "999")), ("solution", (1, 3, (999,))),
            ("solution", (1, 3, None)), Ratio(1), ("solution", (Ratio(1), 3, 999)), (SignTable((1,)), members),
            ("solution", (1.0, 3, 999)), (b"solution", members),
        ):
            self.assert_judged(self.SIDES, value, False)
        for value in (
            ("solution", (0, 1, 2)), ("lot", (0, 1, 2)), ("odd", [0, 1, 2]), ["odd", (0, 1, 2)], ("odd", (0, 1, 2), 1),
            (0, 1, 2), ("odd", (0, 1, Ratio(2))), ("odd", (0, 1, "2")), ("odd", None), ("odd",),
        ):
            self.assert_judged(self.ODD, value, False)

    def test_true_is_not_1(self):
        self.assert_judged(self.SIDES, ("solution", (True, 3, 999)), False)
        self.assert_judged(self.ODD, ("odd", (False, True, 2)), False)
        self.assert_judged(self.ODD, ("odd", (0, True, 2)), False)
        self.assert_same(is_solved(((0,),), (0,), ("solution", ())), True)
        self.assert_same(is_solved(((0,),), (1,), ("solution", (False,))), False)

    def test_places_that_no_row_has(self):
        self.assert_same(is_solved(((0, 1),), (1,), ("solution", (0, 7))), True)
        self.assert_same(is_solved((), (), ("solution", tuple(range(1000)))), True)
        self.assert_same(is_solved((), (), ("solution", tuple(range(1001)))), False)
        self.assert_same(is_solved((), (), ("odd", ())), False)

    def test_places_from_511_on_count(self):
        for place in (0, 1, 255, 256, 511, 512, 513, 767, 768, 998, 999):
            row = (place,)
            self.assert_same(is_solved((row,), (1,), ("solution", row)), True)
            self.assert_same(is_solved((row,), (0,), ("solution", row)), False)

    def test_lots_of_any_length(self):
        rows, sides = ((),) * 2000, (1,) + (0,) * 1999
        self.assert_same(is_solved(rows, sides, ("odd", tuple(range(2000)))), True)
        self.assert_same(is_solved(rows, sides, ("odd", tuple(range(1, 2000)))), False)


class Refusals(Case, unittest.TestCase):
    def assert_refused(self, rows, sides):
        self.assert_error(InvalidOperation, solved, rows, sides)
        self.assert_error(InvalidOperation, is_solved, rows, sides, ("solution", ()))
        self.assert_error(InvalidOperation, is_solved, rows, sides, None)

    def test_rows(self):
        for rows in (
            None, True, 1, "", [], [(0,)], {}, ([0],), (0,), ("0",), ((0,), 1), ((0,), None), ((1, 0),), ((0, 0),),
            ((0, 2, 1),), ((-1,),), ((1000,),), ((0, 1000),), ((-1, 5),), ((10 ** 99,),), ((True,),), ((0, True),),
            ((False,),), ((None,),), (("0",),), (((0,),),), ((Ratio(1),),), ((1.0,),), ((0,), (3, 2)), Ratio(1),
            {(0,): 1},
        ):
            many = len(rows) if isinstance(rows, (tuple, list, dict, str)) else 1
            self.assert_refused(rows, (0,) * many)

    def test_the_number_of_rows(self):
        self.assertEqual(solved(((),) * 2000, (0,) * 2000), ("solution", ()))
        self.assert_refused(((),) * 2001, (0,) * 2001)

    def test_sides(self):
        rows = ((0,), (1,))
        for sides in (
            (), (0,), (0, 1, 0), None, True, 1, "01", [0, 1], {0: 1}, (0, 2), (-1, 0), (0, None), (0, "1"), (0, (1,)),
            (0, 10 ** 99), (Ratio(1), 0), (0, 1.0), SignTable((1, 2)),
        ):
            self.assert_refused(rows, sides)
        for value in NO_INTEGERS:
            self.assert_refused(rows, (0, value))
            self.assert_refused(rows, (value, 1))
        self.assert_refused((), (0,))
        self.assert_refused((), [])

    def test_rows_and_sides(self):
        for rows in (None, ((1, 0),), ((1000,),)):
            for sides in (None, (2,), [1]):
                self.assert_refused(rows, sides)


class Listed(unittest.TestCase):
    def test_each_function_is_defined_there(self):
        self.assertEqual([solved.__module__, is_solved.__module__], [parity.__name__] * 2)

    def test_example(self):
        self.assertEqual(
            [solved(((0, 1), (1,)), (1, 1))[0], is_solved(((0, 1), (1,)), (1, 1), ("solution", (1,))),
             solved(((0, 1), (1, 2), (0, 2)), (1, 1, 1))],
            ["solution", True, ("odd", (0, 1, 2))])
        self.assertEqual(
            [is_solved((), (), ("solution", ())), is_solved(((0,),), (0,), ("odd", (0,))),
             is_solved(((0, 1),), (1,), ("solution", (0, 7)))],
            [True, False, True])


if __name__ == "__main__":
    unittest.main()
