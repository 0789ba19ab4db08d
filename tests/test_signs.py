"""[3.1] and [3.2]: the class SignTable."""

import operator
import random
import unittest

from squaretimes.base.ratios import Ratio
from squaretimes.errors import InvalidOperation, InvalidTable, ParseError, TooMany
from squaretimes.form import signs
from squaretimes.form.signs import MAX_SIZE, SignTable
from tests.helper import NO_INTEGERS, Case

ROUND, FLIP = SignTable((2, -1)), SignTable((-1, 2))


def any_marks(chance, size):
    sizes = list(range(1, size + 1))
    chance.shuffle(sizes)
    return tuple([one * chance.choice((-1, 1)) for one in sizes])


def some_tables():
    """A few tables of each size."""
    chance = random.Random(4)
    return [SignTable(any_marks(chance, size)) for size in range(1, MAX_SIZE + 1) for _ in range(3)]


def entries(marks):
    """The rows of integers that marks tell, straight from [3.1]."""
    size = len(marks)
    return [[1 if mark == at + 1 else -1 if mark == -(at + 1) else 0 for at in range(size)] for mark in marks]


def product(one, other):
    columns = list(zip(*other))
    return [[sum(map(operator.mul, row, column)) for column in columns] for row in one]


class Made(Case, unittest.TestCase):
    def test_max_size(self):
        self.assert_same(MAX_SIZE, 64)

    def test_sizes_from_1_to_64(self):
        for size in range(1, 65):
            marks = tuple([-at for at in range(size, 0, -1)])
            table = SignTable(marks)
            self.assert_same((table.size, table.marks), (size, marks))

    def test_sizes_beyond(self):
        for size in (0, 65, 66, 100):
            self.assert_error(InvalidTable, SignTable, tuple(range(1, size + 1)))

    def test_marks_that_tell_no_table(self):
        refused = (
            (), (0,), (2,), (-2,), (1, 1), (1, -1), (2, -2), (0, 1), (1, 0, 2), (1, 3), (1, 2, 4), (2, 3, 4), (1, 2, 2),
            (True,), (True, 2), (2, True), (-1, False), (1, "2"), ("1",), (1, None), (None,), (1.0,), (1, (2,)),
            ((1,),), (1, [2]), (Ratio(1),), (Ratio(1), 2), (1, 10 ** 99), (-10 ** 60,), [1], [1, 2], [], {}, {1: 2},
            {1}, None, True, False, 0, 1, "1", "1 2", "", Ratio(1), SignTable((1,)), b"\x01",
        )
        for marks in refused:
            self.assert_error(InvalidTable, SignTable, marks)

    def test_each_tuple_of_small_integers(self):
        small = range(-4, 5)
        for marks in [(a, b, c) for a in small for b in small for c in small]:
            if sorted(map(abs, marks)) == [1, 2, 3]:
                self.assert_same(SignTable(marks).marks, marks)
            else:
                self.assert_error(InvalidTable, SignTable, marks)

    def test_idle(self):
        for size in range(1, 65):
            idle = SignTable.idle(size)
            self.assertIs(type(idle), SignTable)
            self.assert_same(idle.marks, tuple(range(1, size + 1)))

    def test_idle_refuses(self):
        for value in NO_INTEGERS + (0, -1, 65, 66, 10 ** 99, -10 ** 99):
            self.assert_number(value, SignTable.idle, value)

    def test_it_never_changes(self):
        table = SignTable((2, -1))
        for name in ("size", "marks", "trace", "is_idle"):
            self.assertRaises(AttributeError, setattr, table, name, (1, 2))
        table.turned(), table.table(), table * FLIP, -table, str(table), table == FLIP
        changed = table
        changed *= FLIP
        self.assert_same((table.marks, changed.marks), ((2, -1), (2, 1)))

    def test_it_is_not_iterated_over(self):
        self.assertRaises(TypeError, iter, ROUND)
        self.assertRaises(TypeError, operator.contains, ROUND, 1)


class Told(Case, unittest.TestCase):
    def test_trace(self):
        wanted = {(1,): 1, (-1,): -1, (2, -1): 0, (-1, 2): 0, (1, 2): 2, (-1, -2): -2, (1, -3, 2): 1, (3, -2, 1): -1}
        for marks, trace in wanted.items():
            self.assert_same(SignTable(marks).trace, trace)
        for table in some_tables():
            rows = entries(table.marks)
            self.assert_same(table.trace, sum([rows[at][at] for at in range(table.size)]))
        self.assert_same([SignTable.idle(64).trace, (-SignTable.idle(64)).trace], [64, -64])

    def test_is_idle(self):
        for table in some_tables():
            self.assert_same(table.is_idle, table.marks == tuple(range(1, table.size + 1)))
        for size in (1, 2, 64):
            self.assert_same([SignTable.idle(size).is_idle, (-SignTable.idle(size)).is_idle], [True, False])
        self.assert_same([SignTable((1, -2)).is_idle, SignTable((2, 1)).is_idle], [False, False])

    def test_turned(self):
        self.assert_same(SignTable((2, -3, 1)).turned().marks, (3, 1, -2))
        for table in some_tables():
            turned = table.turned()
            self.assertIs(type(turned), SignTable)
            self.assertEqual(entries(turned.marks), [list(column) for column in zip(*entries(table.marks))])
            self.assertTrue(turned.turned() == table)

    def test_table(self):
        for table in some_tables():
            if table.size <= 32:
                wanted = tuple([tuple([Ratio(entry) for entry in row]) for row in entries(table.marks)])
                self.assert_same(table.table(), wanted)
        self.assert_same(ROUND.table(), ((Ratio(0), Ratio(1)), (Ratio(-1), Ratio(0))))

    def test_table_above_32(self):
        self.assertEqual(len(SignTable.idle(32).table()), 32)
        for size in (33, 34, 64):
            self.assert_kept(TooMany, "most", 32, SignTable.idle(size).table)


class Multiplied(Case, unittest.TestCase):
    def test_products(self):
        chance = random.Random(5)
        for one in some_tables():
            other = SignTable(any_marks(chance, one.size))
            told = one * other
            self.assertIs(type(told), SignTable)
            self.assertEqual(entries(told.marks), product(entries(one.marks), entries(other.marks)))

    def test_the_sequence_counts(self):
        self.assert_same([(ROUND * FLIP).marks, (FLIP * ROUND).marks], [(2, 1), (-2, -1)])

    def test_with_the_turned_one_it_is_idle_both_ways(self):
        for table in some_tables():
            self.assert_same([(table * table.turned()).is_idle, (table.turned() * table).is_idle], [True, True])

    def test_opposites(self):
        for table in some_tables():
            self.assertIs(type(-table), SignTable)
            self.assert_same((-table).marks, tuple([-mark for mark in table.marks]))
            self.assertTrue(-(-table) == table)

    def test_unlike_sizes(self):
        for one, other in ((1, 2), (2, 1), (63, 64), (64, 1)):
            self.assert_error(InvalidOperation, operator.mul, SignTable.idle(one), SignTable.idle(other))

    def test_operands_of_another_kind(self):
        for value in (None, True, 0, 1, -1, "1", (2, -1), [2, -1], {}, Ratio(1)):
            self.assert_error(TypeError, operator.mul, ROUND, value)
            self.assert_error(TypeError, operator.mul, value, ROUND)
        for sign in (operator.add, operator.sub, operator.lt, operator.truediv, operator.pow):
            self.assert_error(TypeError, sign, ROUND, FLIP)


class Judged(Case, unittest.TestCase):
    def test_equal(self):
        again = SignTable((2, -1))
        self.assert_same([ROUND == again, ROUND != again, ROUND == FLIP, ROUND != FLIP], [True, False, False, True])
        self.assert_same([ROUND == SignTable((2, 1)), SignTable.idle(2) == SignTable.idle(3)], [False, False])

    def test_equal_to_nothing_else(self):
        for value in ((2, -1), [2, -1], "2 -1", None, True, 1, ROUND.table(), Ratio(1), object(), SignTable):
            self.assert_same([ROUND == value, ROUND != value], [False, True])
        self.assert_same([SignTable((1,)) == 1, SignTable((1,)) == True], [False, False])


class Written(Case, unittest.TestCase):
    def test_str(self):
        wanted = {(1,): "1", (-1,): "-1", (2, -1): "2 -1", (-3, 1, 2): "-3 1 2"}
        for marks, text in wanted.items():
            self.assert_same(str(SignTable(marks)), text)

    def test_each_str_is_read_back(self):
        for table in some_tables():
            read = SignTable.read(str(table))
            self.assertIs(type(read), SignTable)
            self.assert_same(read.marks, table.marks)

    def test_texts_of_no_table(self):
        texts = (
            "", " ", "0", "2", "1 1", "1 -1", "1 3", "1  2", " 1", "1 ", "1 2 ", "1\t2", "1\n2", "1 2\n", "+1", "01",
            "1 02", "-0", "1 +2", "1,2", "1, 2", "(1, 2)", "1/1", "2/2 1", "1.0", "a", "1 a", "- 1", "--1", "1 --2",
            "\u0661", "1 \u00b2", " ".join(map(str, range(1, 66))), "1" * 4000, "1 " + "0" * 60 + "2", "True", "None",
        )
        for text in texts:
            self.assert_kept(ParseError, "spot", 0, SignTable.read, text)

    def test_values_that_are_no_strings(self):
        for value in (None, True, 0, 1, (1,), [1], ("1",), ["1", "2"], {}, b"1", Ratio(1), SignTable((1,))):
            self.assert_kept(ParseError, "spot", 0, SignTable.read, value)


class Listed(unittest.TestCase):
    def test_all_is_defined_in_the_class_itself(self):
        names = (
            "idle", "read", "size", "marks", "trace", "is_idle", "turned", "table", "__mul__", "__neg__", "__eq__",
            "__str__", "__init__",
        )
        for name in names:
            self.assertIn(name, vars(SignTable))
        self.assertEqual(SignTable.__module__, signs.__name__)

    def test_example(self):
        self.assertEqual(
            [str(ROUND * ROUND), str(ROUND * FLIP), str(FLIP * ROUND), ROUND.turned() == -ROUND, FLIP.trace,
             SignTable.idle(3).marks, SignTable.read("2 -1") == ROUND],
            ["-1 -2", "2 1", "-2 -1", True, 0, (1, 2, 3), True])


if __name__ == "__main__":
    unittest.main()
