"""[3.3] to [3.6]: formulas."""

import operator
import random
import unittest

from squaretimes.base.ratios import Ratio
from squaretimes.base.tables import idle_table, scaled_table, table_of, table_product, table_sum
from squaretimes.errors import InvalidFormula, InvalidOperation, InvalidRatio, InvalidTable, TooMany
from squaretimes.form import formulas
from squaretimes.form.formulas import MAX_SIDE, Formula, broken, is_formula
from squaretimes.form.signs import SignTable
from tests.helper import (
    GREAT, NO_INTEGERS, NO_RATIOS, TOO_GREAT, Case, exact_turn, fraction, fractions, plain, plain_product, plain_turned,
    small_row, told_signs,
)

ONE, NOUGHT = Ratio(1), Ratio(0)
ROUND, FLIP = SignTable((2, -1)), SignTable((-1, 2))
TWO = Formula((SignTable.idle(2).table(), ROUND.table()))


def told(many):
    return tuple([one.table() for one in told_signs(many)])


def spun(chance, tables):
    """Tables of a formula with the rows, the columns and the tables themselves turned exactly."""
    size, rows, columns = len(tables), len(tables[0]), len(tables[0][0])
    ahead, behind, mixed = exact_turn(chance, rows), exact_turn(chance, columns), exact_turn(chance, size)
    moved = [table_product(table_product(ahead, table), behind) for table in tables]
    found = []
    for factors in mixed:
        total = scaled_table(moved[0], 0)
        for factor, table in zip(factors, moved):
            total = table_sum(total, scaled_table(table, factor))
        found.append(total)
    return tuple(found)


def some_formulas():
    chance = random.Random(31)
    found = [told(many) for many in range(4)]
    found = found + [spun(chance, tables) for tables in found for _ in range(3)]
    found = found + [tuple([table[:2] for table in tables[:3]]) for tables in found if len(tables) == 4]
    found.append((((ONE,) + (NOUGHT,) * 31,),))
    found.append(tuple([tuple([row + (NOUGHT,) for row in table]) for table in told(1)]))
    return found


def plain_broken(tables):
    """The least pair by [3.3], with fractions."""
    rows = [plain(table) for table in tables]
    size = len(rows[0])
    for i, one in enumerate(rows):
        for j in range(i, len(rows)):
            ahead = plain_product(one, plain_turned(rows[j]))
            behind = plain_product(rows[j], plain_turned(one))
            for a in range(size):
                for b in range(size):
                    wanted = 2 * int(a == b) if i == j else 0
                    if ahead[a][b] + behind[a][b] != wanted:
                        return i, j
    return None


def near(chance, tables):
    """Tables near some tables: an entry, a row or a table changed, exchanged or doubled."""
    found = [[list(row) for row in table] for table in tables]
    at, row = chance.randrange(len(found)), chance.randrange(len(found[0]))
    column = chance.randrange(len(found[0][0]))
    kind = chance.randrange(7)
    if kind == 0:
        found[at][row][column] = found[at][row][column] + chance.choice((1, -1, Ratio(1, 10 ** 50)))
    elif kind == 1:
        found[at][row] = [-entry for entry in found[at][row]]
    elif kind == 2:
        found[at][row] = [entry * 2 for entry in found[at][row]]
    elif kind == 3:
        found[at][0], found[at][-1] = found[at][-1], found[at][0]
    elif kind == 4:
        found[at] = found[-1]
    elif kind == 5:
        found[at] = [[entry * Ratio(3, 2) for entry in line] for line in found[at]]
    else:
        found[at] = [[-entry for entry in line] for line in found[at]]
    return tuple([tuple([tuple(line) for line in table]) for table in found])


GRID = ((ONE, NOUGHT), (NOUGHT, ONE))
# Values that are no tuples of 1 to 32 tables with equally many rows and columns.
NO_TUPLES = NO_RATIOS + (
    ONE, GRID, [GRID], (GRID, [GRID]), ([(ONE,)],), (([ONE],),), (((1,),),), (((ONE,),), ((1,),)), (((True,),),),
    ((),), (((),),), (((ONE,),), ((ONE, NOUGHT),)), (((ONE, NOUGHT),), ((ONE,), (NOUGHT,))), (GRID, ((ONE, NOUGHT),)),
    (((ONE,), (ONE, NOUGHT)),), (((ONE,),),) * 33, (((ONE,),) * 33,), (((ONE,) * 33,),), (GRID, None), (GRID, ROUND),
    (ROUND, ROUND), {0: GRID}, TWO, (TWO,), (((TOO_GREAT,),),), (GRID, (GRID,)), (((None,),),),
)


class Judged(Case, unittest.TestCase):
    def test_max_side(self):
        self.assert_same(MAX_SIDE, 32)

    def test_tables_that_make_a_formula(self):
        for tables in some_formulas():
            self.assertIsNone(plain_broken(tables))
            self.assert_same((broken(tables), is_formula(tables)), (None, True))
            formula = Formula(tables)
            self.assert_same(formula.tables, tables)
            self.assert_same(formula.sizes, (len(tables), len(tables[0]), len(tables[0][0])))

    def test_tables_near_them(self):
        chance = random.Random(32)
        seen = set()
        for tables in some_formulas():
            for _ in range(25):
                changed = near(chance, tables)
                wanted = plain_broken(changed)
                seen.add(wanted)
                self.assert_same((broken(changed), is_formula(changed)), (wanted, wanted is None))
                if wanted is not None:
                    self.assert_error(InvalidFormula, Formula, changed)
        self.assertGreater(len(seen), 12)

    def test_the_least_pair(self):
        idle, turn, flip = idle_table(2), ROUND.table(), FLIP.table()
        twice = scaled_table(idle, 2)
        wanted = (
            ((twice,), (0, 0)), ((idle, idle), (0, 1)), ((idle, twice), (0, 1)), ((idle, turn, twice), (0, 2)),
            ((turn, flip), (0, 1)), ((idle, turn, turn), (1, 2)),
        )
        for tables, pair in wanted:
            self.assert_same(broken(tables), pair)
        self.assert_same(broken((idle, scaled_table(turn, 2))), (1, 1))
        four = told(2)
        self.assert_same(broken(four[:3] + four[1:2]), (1, 3))
        self.assert_same(broken(four[:3] + (scaled_table(four[3], Ratio(1, 2)),)), (3, 3))
        self.assert_same(broken(four[1:3] + four[2:]), (1, 2))

    def test_great_tables(self):
        wide = (((ONE,) + (NOUGHT,) * 31,),)
        self.assert_same([is_formula(wide), is_formula((idle_table(32),)), is_formula((idle_table(32),) * 2)],
                         [True, True, False])
        rows = tuple([(tuple([Ratio(int(at == column)) for column in range(32)]),) for at in range(32)])
        self.assert_same([is_formula(rows), Formula(rows).sizes], [True, (32, 1, 32)])
        self.assert_same(broken((idle_table(32),) * 32), (0, 1))

    def test_more_rows_or_tables_than_columns(self):
        self.assert_same(is_formula((((ONE,), (NOUGHT,)),)), False)
        self.assert_same(is_formula((((ONE,), (ONE,)),)), False)
        self.assert_same(is_formula((((ONE,),), ((ONE,),))), False)

    def test_great_integers(self):
        long = Ratio(GREAT) * GREAT
        self.assert_same([broken((((long,),),)), is_formula((((long,),),))], [(0, 0), False])
        below = Ratio(1).over(long * long + 1)
        turn = (((long * long - 1) * below, long * 2 * below), (long * -2 * below, (long * long - 1) * below))
        self.assert_same([is_formula((turn,)), is_formula((idle_table(2), turn))], [True, False])

    def test_what_is_no_such_tuple(self):
        for value in NO_TUPLES:
            self.assert_error(InvalidTable, broken, value)
            self.assert_error(InvalidTable, Formula, value)
            self.assert_same(is_formula(value), False)
        self.assert_same(is_formula((((10 ** 5000,),),)), False)

    def test_the_table_is_asked_first(self):
        broken_table = scaled_table(idle_table(2), 2)
        self.assert_error(InvalidTable, Formula, (broken_table, ((ONE,),)))
        self.assert_error(InvalidFormula, Formula, (broken_table,))


class Told(Case, unittest.TestCase):
    def test_whole(self):
        for many in range(4):
            self.assert_same(Formula(told(many)).is_whole, True)
            self.assert_same(Formula(tuple([scaled_table(table, -1) for table in told(many)])).is_whole, True)
        turn = table_of(((Ratio(3, 5), Ratio(4, 5)), (Ratio(-4, 5), Ratio(3, 5))))
        self.assert_same(Formula((turn,)).is_whole, False)
        self.assert_same(Formula((turn, table_product(turn, ROUND.table()))).is_whole, False)
        self.assert_same(Formula((table_product(turn, turn),)).is_whole, False)
        for tables in some_formulas():
            whole = all([entry.denominator == 1 for table in tables for row in plain(table) for entry in row])
            self.assert_same(Formula(tables).is_whole, whole)

    def test_each_row_of_a_whole_formula_has_one_entry(self):
        for tables in some_formulas():
            if Formula(tables).is_whole:
                for row in [row for table in tables for row in plain(table)]:
                    self.assertEqual(sorted(map(abs, row)), [0] * (len(row) - 1) + [1])

    def test_equal(self):
        again = Formula((SignTable.idle(2).table(), ROUND.table()))
        other = Formula((SignTable.idle(2).table(), (-ROUND).table()))
        self.assert_same([TWO == again, TWO != again, TWO == other, TWO != other], [True, False, False, True])
        for value in (TWO.tables, None, True, 1, "formula of sizes (2, 2, 2)", [], ROUND, Ratio(1), Formula):
            self.assert_same([TWO == value, TWO != value], [False, True])
        self.assert_same(TWO == TWO.cut((0,), (0, 1)), False)

    def test_str(self):
        self.assert_same([str(TWO), str(TWO.cut((1,), (0,)))], ["formula of sizes (2, 2, 2)", "formula of sizes (1, 1, 2)"])
        self.assert_same(str(Formula(told(3)).cut((0, 1), (0, 1, 2))), "formula of sizes (2, 3, 8)")

    def test_it_never_changes_and_is_not_iterated_over(self):
        for name in ("sizes", "tables", "is_whole"):
            self.assertRaises(AttributeError, setattr, TWO, name, 1)
        self.assertRaises(TypeError, iter, TWO)
        self.assertRaises(TypeError, operator.contains, TWO, 1)

    def test_all_is_defined_in_the_class_itself(self):
        names = ("sizes", "tables", "is_whole", "__call__", "cut", "exchanged", "beside", "above", "__eq__", "__str__")
        for name in names + ("__init__",):
            self.assertIn(name, vars(Formula))
        for one in (Formula, broken, is_formula):
            self.assertEqual(one.__module__, formulas.__name__)


def norm(row):
    return sum([entry * entry for entry in fractions(row)])


class Valued(Case, unittest.TestCase):
    def test_values(self):
        chance = random.Random(33)
        for tables in some_formulas():
            formula = Formula(tables)
            for _ in range(4):
                x, y = small_row(chance, formula.sizes[0]), small_row(chance, formula.sizes[1])
                z = formula(x, y)
                self.assertEqual({type(z)} | {type(entry) for entry in z}, {tuple, Ratio})
                wanted = [
                    sum([fraction(x[i]) * fraction(y[j]) * fraction(tables[i][j][at])
                         for i in range(len(x)) for j in range(len(y))])
                    for at in range(formula.sizes[2])
                ]
                self.assertEqual(fractions(z), wanted)
                self.assertEqual(norm(z), norm(x) * norm(y))

    def test_sums_and_multiples(self):
        chance = random.Random(34)
        for tables in some_formulas():
            formula = Formula(tables)
            x, u = [small_row(chance, formula.sizes[0]) for _ in range(2)]
            y, v = [small_row(chance, formula.sizes[1]) for _ in range(2)]
            three_x = tuple([Ratio(3) * entry + more for entry, more in zip(x, u)])
            three_y = tuple([Ratio(3) * entry + more for entry, more in zip(y, v)])
            ahead = [3 * a + b for a, b in zip(fractions(formula(x, y)), fractions(formula(u, y)))]
            behind = [3 * a + b for a, b in zip(fractions(formula(x, y)), fractions(formula(x, v)))]
            self.assertEqual(fractions(formula(three_x, y)), ahead)
            self.assertEqual(fractions(formula(x, three_y)), behind)

    def test_unit_rows(self):
        for tables in some_formulas():
            formula = Formula(tables)
            many, rows, _ = formula.sizes
            for i in range(many):
                for j in range(rows):
                    x = tuple([int(at == i) for at in range(many)])
                    y = tuple([int(at == j) for at in range(rows)])
                    self.assert_same(formula(x, y), tables[i][j])

    def test_great_values(self):
        x, y = (GREAT, Ratio(1, GREAT)), (Ratio(GREAT) * GREAT, -GREAT)
        self.assertEqual(norm(TWO(x, y)), norm(x) * norm(y))

    def test_errors(self):
        wrong = NO_RATIOS + (
            (), (1,), (1, 2, 3), [1, 2], (1, True), (False, 1), (1, None), (1, "2"), ((1, 2),), (1, TOO_GREAT),
            (-TOO_GREAT, 1), {0: 1, 1: 2}, (1, (2,)), (1, 2.0), TWO,
        )
        for value in wrong:
            self.assert_error(InvalidRatio, TWO, value, (1, 2))
            self.assert_error(InvalidRatio, TWO, (1, 2), value)
        formula = TWO.cut((0,), (0, 1))
        self.assert_error(InvalidRatio, formula, (1, 2), (1,))
        self.assert_same(formula((2,), (1, 2)), (Ratio(2), Ratio(4)))


class Cut(Case, unittest.TestCase):
    def test_cut(self):
        chance = random.Random(35)
        for tables in some_formulas():
            formula = Formula(tables)
            many, rows, columns = formula.sizes
            for _ in range(4):
                firsts = tuple(sorted(chance.sample(range(many), chance.randrange(1, many + 1))))
                seconds = tuple(sorted(chance.sample(range(rows), chance.randrange(1, rows + 1))))
                left = formula.cut(firsts, seconds)
                self.assert_same(left.sizes, (len(firsts), len(seconds), columns))
                self.assertIs(type(left), Formula)
                self.assertTrue(is_formula(left.tables))
                x, y = [0] * many, [0] * rows
                kept_x, kept_y = small_row(chance, len(firsts)), small_row(chance, len(seconds))
                for at, entry in zip(firsts, kept_x):
                    x[at] = entry
                for at, entry in zip(seconds, kept_y):
                    y[at] = entry
                self.assert_same(left(kept_x, kept_y), formula(tuple(x), tuple(y)))
            self.assertTrue(formula.cut(tuple(range(many)), tuple(range(rows))) == formula)

    def test_errors(self):
        formula = Formula(told(2)).cut((0, 1, 2), (0, 1, 2, 3))
        wrong = NO_INTEGERS + (
            1, [0], [0, 1], (-1,), (0, -1), (4,), (0, 4), (1, 0), (0, 0), (0, 1, 1), (True,), (False, 1), (0, None),
            ("0",), (0.0,), ((0,),), (10 ** 99,), {0: 1}, (Ratio(0),),
        )
        for value in wrong:
            if value != (1,):
                self.assert_error(InvalidOperation, formula.cut, value, (0,))
                self.assert_error(InvalidOperation, formula.cut, (0,), value)
                self.assert_error(InvalidOperation, formula.cut, value, value)
        self.assert_error(InvalidOperation, formula.cut, (3,), (0,))
        self.assert_same(formula.cut((2,), (3,)).sizes, (1, 1, 4))


class Joined(Case, unittest.TestCase):
    def test_exchanged(self):
        chance = random.Random(36)
        for tables in some_formulas():
            formula = Formula(tables)
            many, rows, columns = formula.sizes
            exchanged = formula.exchanged()
            self.assert_same(exchanged.sizes, (rows, many, columns))
            self.assertTrue(is_formula(exchanged.tables))
            x, y = small_row(chance, many), small_row(chance, rows)
            self.assert_same(exchanged(y, x), formula(x, y))
            self.assertTrue(exchanged.exchanged() == formula)

    def pairs(self, at):
        """Pairs of formulas that have the size at an index in common."""
        formulas_told = [Formula(tables) for tables in some_formulas()]
        formulas_told = formulas_told + [one.exchanged() for one in formulas_told]
        return [
            (one, other) for one in formulas_told for other in formulas_told
            if one.sizes[at] == other.sizes[at] and one.sizes[2] + other.sizes[2] <= 32
        ]

    def test_beside(self):
        chance = random.Random(37)
        for one, other in chance.sample(self.pairs(0), 80):
            joined = one.beside(other)
            many, rows, columns = one.sizes
            self.assert_same(joined.sizes, (many, rows + other.sizes[1], columns + other.sizes[2]))
            self.assertTrue(is_formula(joined.tables))
            x, y, z = small_row(chance, many), small_row(chance, rows), small_row(chance, other.sizes[1])
            self.assert_same(joined(x, y + z), one(x, y) + other(x, z))

    def test_above(self):
        chance = random.Random(38)
        for one, other in chance.sample(self.pairs(1), 80):
            joined = one.above(other)
            many, rows, columns = one.sizes
            self.assert_same(joined.sizes, (many + other.sizes[0], rows, columns + other.sizes[2]))
            self.assertTrue(is_formula(joined.tables))
            x, y, z = small_row(chance, many), small_row(chance, rows), small_row(chance, other.sizes[0])
            self.assert_same(joined(x + z, y), one(x, y) + other(z, y))
            again = one.exchanged().beside(other.exchanged()).exchanged()
            self.assertTrue(again == joined)

    def test_no_brackets_are_needed(self):
        chance = random.Random(39)
        one, other, third = TWO, Formula(spun(chance, told(1))), Formula(spun(chance, told(1)))
        self.assertTrue(one.beside(other).beside(third) == one.beside(other.beside(third)))
        self.assertTrue(one.above(other).above(third) == one.above(other.above(third)))
        self.assertFalse(one.beside(other) == other.beside(one))

    def test_errors(self):
        for value in NO_RATIOS + (ONE, TWO.tables, (TWO,), [TWO], Formula):
            self.assert_error(InvalidFormula, TWO.beside, value)
            self.assert_error(InvalidFormula, TWO.above, value)
        three = Formula(told(2)).cut((0, 1, 2), (0, 1))
        self.assert_error(InvalidOperation, TWO.beside, three)
        self.assert_error(InvalidOperation, TWO.above, three.exchanged())
        self.assert_same(TWO.above(three).sizes, (5, 2, 6))
        self.assert_same(TWO.beside(three.exchanged()).sizes, (2, 5, 6))

    def test_too_great_sizes(self):
        wide = Formula((((ONE,) + (NOUGHT,) * 30,),))
        one = Formula((((ONE,),),))
        two = one.beside(one)
        self.assert_same([wide.beside(one).sizes, wide.above(one).sizes], [(1, 2, 32), (2, 1, 32)])
        self.assert_kept(TooMany, "most", 32, wide.beside, Formula((((ONE, NOUGHT),),)))
        self.assert_kept(TooMany, "most", 32, wide.above, Formula((((ONE, NOUGHT),),)))
        self.assert_kept(TooMany, "most", 32, wide.beside, two)
        square = Formula((idle_table(32),))
        self.assert_kept(TooMany, "most", 32, square.beside, one)
        self.assert_kept(TooMany, "most", 32, square.above, square)
        # Unlike sizes are refused ahead of sizes that are too great.
        self.assert_error(InvalidOperation, square.above, one)
        self.assert_error(InvalidOperation, square.beside, two.exchanged())


class NotTrue(Case, unittest.TestCase):
    def test_n_below_r_and_s_less_1(self):
        self.assert_same(Formula(told(2)).sizes, (4, 4, 4))
        self.assertLess(4, 4 + 4 - 1)

    def test_all_rules_of_single_tables_are_not_enough(self):
        tables = (ROUND.table(), FLIP.table())
        self.assertEqual([broken((table,)) for table in tables], [None, None])
        self.assert_same([broken(tables), is_formula(tables)], [(0, 1), False])

    def test_the_sequence_of_sign_tables_counts(self):
        self.assertFalse(ROUND * FLIP == FLIP * ROUND)

    def test_example(self):
        self.assertEqual(
            [TWO.sizes, TWO((3, 4), (1, 2)) == (Ratio(-5), Ratio(10)), TWO.is_whole,
             broken((ROUND.table(), ROUND.table())), broken((ROUND.table(), FLIP.table()))],
            [(2, 2, 2), True, True, (0, 1), (0, 1)])
        self.assertEqual(
            [TWO.beside(TWO).sizes, TWO.above(TWO).sizes, TWO.cut((0,), (1,)).sizes, TWO.exchanged().sizes, str(TWO)],
            [(2, 4, 4), (4, 2, 4), (1, 1, 2), (2, 2, 2), "formula of sizes (2, 2, 2)"])


if __name__ == "__main__":
    unittest.main()
