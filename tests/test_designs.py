"""[15.3] and [15.4]: designs of families."""

import operator
import random
import unittest

from squaretimes.base.ratios import Ratio
from squaretimes.base.tables import (
    idle_table, scaled_table, sum_of_squares, table_of, table_product, table_sum, table_trace, turned_table,
)
from squaretimes.desk import designs
from squaretimes.desk.designs import MAX_DESIGN, Design
from squaretimes.errors import InvalidFamily, InvalidOperation, InvalidRatio, InvalidTable, TooMany
from squaretimes.form.radon import copied, family
from squaretimes.form.signs import SignTable
from tests.helper import NO_INTEGERS, NO_PASSED_INTEGERS, NO_RATIOS, Case, fraction, plain, small_row

THREE = (SignTable((1, 2, 3, 4)), SignTable((2, -1, 4, -3)), SignTable((3, -4, -1, 2)))


def some_families():
    """Families of all sizes to 32, cut and copied ones."""
    chance = random.Random(171)
    found = [family(size) for size in range(1, 33)]
    for size in (2, 4, 8, 16, 24, 32):
        units = list(family(size)[1:])
        chance.shuffle(units)
        found.append((SignTable.idle(size),) + tuple([-unit for unit in units[:chance.randrange(len(units) + 1)]]))
    found.extend([copied(family(4), 3), copied(family(2), 5), copied(THREE, 8), (SignTable.idle(5),)])
    return found


def changed(table, row, column, entry):
    """The table with another entry at one place."""
    line = table[row][:column] + (entry,) + table[row][column + 1:]
    return table[:row] + (line,) + table[row + 1:]


class Rows(Case, unittest.TestCase):
    def test_max_design(self):
        self.assert_same(MAX_DESIGN, 32)

    def test_by_the_members(self):
        for members in some_families():
            design = Design(members)
            size = members[0].size
            self.assert_same([design.size, len(design)], [size, len(members)])
            self.assertTrue(design.family == members)
            wanted = [[0] * size for _ in range(size)]
            for index, member in enumerate(members):
                for row, line in enumerate(plain(member.table())):
                    for column, entry in enumerate(line):
                        wanted[row][column] += int(entry) * (index + 1)
            self.assert_same(design.rows, tuple([tuple(row) for row in wanted]))
            for index in range(len(members)):
                places = tuple([(row, column) for row in range(size) for column in range(size)
                                if abs(wanted[row][column]) == index + 1])
                self.assert_same(design.places(index), places)
                self.assertEqual([len(places), len({column for _, column in places})], [size, size])

    def test_places_refuse(self):
        design = Design(THREE)
        for value in NO_PASSED_INTEGERS + (-1, 3, 4, 10 ** 59):
            self.assert_number(value, design.places, value)

    def test_no_families(self):
        i, j = THREE[1:]
        wrong = NO_RATIOS + (
            list(THREE), THREE[1:], THREE + (THREE[1],), (THREE[0], THREE[0]), THREE[0], (THREE[0], SignTable.idle(3)),
            (THREE[0].table(),), THREE + (None,), (THREE,), (THREE[0], i * j, i, SignTable((2, 1, 4, 3))),
        )
        for value in wrong:
            self.assert_error(InvalidFamily, Design, value)

    def test_great_families(self):
        for size in (33, 34, 48, 64):
            self.assert_kept(TooMany, "most", 32, Design, family(size))
        self.assert_error(InvalidFamily, Design, (SignTable.idle(64), SignTable.idle(64)))

    def test_equal_and_str(self):
        design = Design(THREE)
        self.assert_same([design == Design(THREE), design != Design(THREE)], [True, False])
        for value in NO_RATIOS + (THREE, design.rows, Design(THREE[:2]), Design((THREE[0], THREE[2], THREE[1])),
                                  Design((THREE[0], -THREE[1], THREE[2])), Design(family(2))):
            self.assert_same([design == value, design != value], [False, True])
        self.assert_same([str(design), str(Design(family(1)))], ["1 2 3 0/-2 1 0 -3/-3 0 1 2/0 3 -2 1", "1"])
        for members in some_families()[:12]:
            wanted = "/".join([" ".join(map(str, row)) for row in Design(members).rows])
            self.assert_same(str(Design(members)), wanted)

    def test_it_never_changes(self):
        design = Design(THREE)
        for name in ("family", "size", "rows"):
            self.assertRaises(AttributeError, setattr, design, name, 1)
        for call in (iter, lambda one: one[0], lambda one: 1 in one):
            self.assertRaises(TypeError, call, design)
        self.assertRaises(TypeError, operator.add, design, design)

    def test_all_is_defined_in_the_class_itself(self):
        names = (
            "family", "size", "rows", "places", "sent", "read_back", "is_sent", "mended", "__len__", "__eq__", "__str__",
        )
        for name in names:
            self.assertIn(name, vars(Design))
        self.assertEqual(Design.__module__, designs.__name__)


class Sent(Case, unittest.TestCase):
    def test_sums_of_the_members(self):
        chance = random.Random(172)
        for members in some_families():
            design = Design(members)
            values = small_row(chance, len(members))
            sent = design.sent(values)
            wanted = scaled_table(members[0].table(), values[0])
            for member, value in zip(members[1:], values[1:]):
                wanted = table_sum(wanted, scaled_table(member.table(), value))
            self.assert_same(sent, wanted)
            if design.size <= 16:
                product = scaled_table(idle_table(design.size), sum_of_squares(values))
                self.assert_same(table_product(sent, turned_table(sent)), product)

    def test_read_back(self):
        chance = random.Random(173)
        for members in some_families():
            design = Design(members)
            values = small_row(chance, len(members))
            told = design.read_back(design.sent(values))
            self.assert_same(told, tuple([Ratio(0) + value for value in values]))
            table = table_of(tuple([small_row(chance, design.size) for _ in range(design.size)]))
            told = design.read_back(table)
            for index in {0, len(members) - 1, len(members) // 2}:
                trace = table_trace(table_product(table, members[index].turned().table()))
                self.assert_same(told[index], trace.over(design.size))

    def test_one_place_that_differs(self):
        chance = random.Random(174)
        for members in some_families():
            design = Design(members)
            sent = design.sent(small_row(chance, len(members)))
            told = design.read_back(sent)
            for _ in range(5):
                row, column = chance.randrange(design.size), chance.randrange(design.size)
                more = Ratio(chance.randrange(1, 9), chance.randrange(1, 9))
                wrong = design.read_back(changed(sent, row, column, sent[row][column] + more))
                unknown = design.rows[row][column]
                for index in range(len(members)):
                    step = fraction(more) / design.size * ((unknown == index + 1) - (unknown == -index - 1))
                    self.assertEqual(fraction(wrong[index]), fraction(told[index]) + step)

    def test_is_sent(self):
        chance = random.Random(175)
        for members in some_families():
            design = Design(members)
            sent = design.sent(small_row(chance, len(members)))
            self.assertIs(design.is_sent(sent), True)
            for _ in range(5):
                row, column = chance.randrange(design.size), chance.randrange(design.size)
                wrong = changed(sent, row, column, sent[row][column] + Ratio(1, 3))
                self.assertIs(design.is_sent(wrong), design.size == 1)
                self.assertIs(design.is_sent(changed(sent, row, column, None)), False)
        great = Design(THREE).sent((Ratio(10 ** 59) * 10 ** 59, 0, 1))
        self.assertIs(Design(THREE).is_sent(great), True)

    def test_is_sent_of_other_values(self):
        design = Design(THREE)
        sent = design.sent((1, 2, 3))
        whole = tuple([tuple([entry.top for entry in row]) for row in sent])
        wrong = NO_RATIOS + (
            whole, [list(row) for row in sent], list(sent), tuple([list(row) for row in sent]), sent[:3], sent + sent[:1],
            tuple([row[:3] for row in sent]), tuple([row[:3] for row in sent[:3]]), (sent,), THREE[0], THREE,
            changed(sent, 0, 0, 1), changed(sent, 0, 3, 0), changed(sent, 0, 0, True), changed(sent, 2, 2, "1"),
        )
        for value in wrong:
            self.assertIs(design.is_sent(value), False)
        self.assertIs(Design(family(1)).is_sent(((Ratio(1),),)), True)

    def test_values(self):
        design = Design(THREE)
        wrong = NO_RATIOS + (
            (1, 2), (1, 2, 3, 4), [1, 2, 3], (1, 2, None), (1, 2, True), (1, 2, "3"), (1, 2, 10 ** 60), ((1, 2, 3),),
            (1, 2, (3,)), {1: 2}, (1, 2, design),
        )
        for value in wrong:
            self.assert_error(InvalidRatio, design.sent, value)

    def test_tables(self):
        design = Design(THREE)
        sent = design.sent((1, 2, 3))
        wrong = NO_RATIOS + (
            sent[:3], sent + sent[:1], tuple([row[:3] for row in sent]), list(sent), changed(sent, 1, 1, 1),
            changed(sent, 0, 3, 0), changed(sent, 0, 0, None), changed(sent, 3, 3, True), idle_table(3), idle_table(5), (),
            ((),) * 4, (sent,), design, THREE[0], sent[:3] + (list(sent[3]),), sent[:3] + ((Ratio(1),) * 3,),
        )
        for value in wrong:
            self.assert_error(InvalidTable, design.read_back, value)
            self.assert_error(InvalidTable, design.mended, value)
            self.assert_error(InvalidTable, Design(family(2)).mended, value)


class Mended(Case, unittest.TestCase):
    def test_a_wrong_entry_at_each_place(self):
        chance = random.Random(176)
        for members in some_families():
            design = Design(members)
            if design.size < 3 or design.size > 16 and len(members) < 9:
                continue
            sent = design.sent(small_row(chance, len(members)))
            self.assert_same(design.mended(sent), sent)
            places = [(row, column) for row in range(design.size) for column in range(design.size)]
            for row, column in places if design.size <= 8 else chance.sample(places, 12):
                wrong = changed(sent, row, column, sent[row][column] + Ratio(chance.choice((-2, 1, 3)), 5))
                self.assert_same(design.mended(wrong), sent)

    def test_two_wrong_entries(self):
        chance = random.Random(177)
        for members in [members for members in some_families() if 3 <= members[0].size <= 12]:
            design = Design(members)
            sent = design.sent(small_row(chance, len(members)))
            for _ in range(12):
                (row, column), (other, place) = [
                    (chance.randrange(design.size), chance.randrange(design.size)) for _ in range(2)
                ]
                if (row, column) == (other, place):
                    continue
                wrong = changed(sent, row, column, sent[row][column] + 1)
                wrong = changed(wrong, other, place, wrong[other][place] + chance.choice((1, -1, Ratio(1, 2))))
                told = design.mended(wrong)
                # Of size 3 two wrong entries of three can tell another value.
                right = told is None or (design.size == 3 and design.is_sent(told) and distance(told, wrong) == 1)
                self.assertTrue(right, (members, wrong))
                if design.size > 3:
                    self.assertIsNone(told)

    def test_size_3(self):
        # The one unknown stands on the diagonal: two of three entries tell its value.
        design = Design((SignTable.idle(3),))
        table = table_of(((5, 0, 0), (0, 5, 0), (0, 0, 7)))
        self.assert_same(design.mended(table), table_of(((5, 0, 0), (0, 5, 0), (0, 0, 5))))
        for entries in ((7, 5, 5), (5, 7, 5)):
            table = table_of(((entries[0], 0, 0), (0, entries[1], 0), (0, 0, entries[2])))
            self.assert_same(design.mended(table), scaled_table(idle_table(3), 5))
        self.assertIsNone(design.mended(table_of(((5, 0, 0), (0, 6, 0), (0, 0, 7)))))
        self.assertIsNone(design.mended(table_of(((5, 1, 0), (0, 5, 0), (0, 0, 7)))))
        self.assert_same(design.mended(table_of(((5, 1, 0), (0, 5, 0), (0, 0, 5)))), scaled_table(idle_table(3), 5))

    def test_any_tables(self):
        chance = random.Random(178)
        for members in [members for members in some_families() if 3 <= members[0].size <= 8]:
            design = Design(members)
            for _ in range(5):
                table = table_of(tuple([small_row(chance, design.size) for _ in range(design.size)]))
                self.assertIsNone(design.mended(table))

    def test_sizes_1_and_2(self):
        for members in (family(1), family(2), (SignTable.idle(2),)):
            design = Design(members)
            self.assert_error(InvalidOperation, design.mended, design.sent((1,) * len(members)))
            self.assert_error(InvalidTable, design.mended, idle_table(3))
            self.assertIs(design.is_sent(design.sent((1,) * len(members))), True)

    def test_no_places(self):
        for value in NO_INTEGERS:
            self.assert_error(InvalidTable, Design(THREE).mended, value)


def distance(one, other):
    """The number of the places at which two tables differ."""
    return sum([entry != more for row, line in zip(one, other) for entry, more in zip(row, line)])


if __name__ == "__main__":
    unittest.main()
