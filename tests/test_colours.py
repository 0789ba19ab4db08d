"""[10.1] to [10.7] and [0.14]: colourings, and the signs that make formulas of them."""

import operator
import random
import unittest
from itertools import combinations, product

from squaretimes.base.ratios import Ratio
from squaretimes.base.tables import table_of, turned_table
from squaretimes.colour import colours as module
from squaretimes.colour.bars import least_let
from squaretimes.colour.colours import (
    MAX_SEARCHED, MAX_SIDE, MAX_WORD, Colours, all_colours, breach, colours_of, is_going, is_signed, least_signed,
    signed, xor_colours,
)
from squaretimes.errors import InvalidColours, InvalidFormula, InvalidNumber, InvalidOperation, Refused, TooMany
from squaretimes.form.formulas import Formula, is_formula
from squaretimes.form.radon import family, formula_of_family
from squaretimes.form.signs import SignTable
from tests.helper import NO_INTEGERS, NO_RATIOS, Case, exact_turn, fractions, small_row, told_signs

TWO = Colours(((0, 1), (1, 0)))
LATIN = ((0, 1, 2), (1, 2, 0), (2, 0, 1))
EIGHTS = xor_colours(tuple(range(8)), tuple(range(8)))
SIXTEENS = xor_colours(tuple(range(16)), tuple(range(16)))
NO_COLOURINGS = NO_RATIOS + (((0, 1), (1, 0)), TWO.rows, [TWO], (TWO,), EIGHTS.exchanged)


def cells_of(rows):
    return {(i, j): colour for i, row in enumerate(rows) for j, colour in enumerate(row)}


def plain_breach(rows):
    """By the words of the document, one triple or quadruple after the other."""
    many, size = len(rows), len(rows[0])
    for i, j, l in product(range(many), range(size), range(size)):
        if j < l and rows[i][j] == rows[i][l]:
            return "row", i, j, l
    for j, i, k in product(range(size), range(many), range(many)):
        if i < k and rows[i][j] == rows[k][j]:
            return "column", j, i, k
    for i, j, k, l in product(range(many), range(size), range(many), range(size)):
        if i < k and rows[i][j] == rows[k][l] and rows[i][l] != rows[k][j]:
            return "corner", i, j, k, l
    return None


def numbered(rows):
    """The rows with their colours numbered from 0 in ascending order."""
    left = sorted({colour for row in rows for colour in row})
    return tuple([tuple([left.index(colour) for colour in row]) for row in rows])


def plain_pieces(rows):
    """By [10.2]."""
    found = []
    for i, k in combinations(range(len(rows)), 2):
        for j, l in combinations(range(len(rows[0])), 2):
            if rows[i][j] == rows[k][l] and rows[i][l] == rows[k][j]:
                found.append((i, k, j, l))
    return tuple(sorted(found))


def corners(piece):
    i, k, j, l = piece
    return ((i, j), (i, l), (k, j), (k, l))


def fit(rows, signs):
    """By [10.3], by counting."""
    return all(sum([signs[i][j] == -1 for i, j in corners(piece)]) % 2 == 1 for piece in plain_pieces(rows))


def is_odd_lot(rows, indices):
    """By [10.5], by counting."""
    pieces = plain_pieces(rows)
    counts = {}
    for index in indices:
        for cell in corners(pieces[index]):
            counts[cell] = counts.get(cell, 0) + 1
    return len(indices) % 2 == 1 and all(count % 2 == 0 for count in counts.values())


def shuffled(chance, rows):
    """The rows with rows, columns and colours in another sequence."""
    rows, columns = list(rows), list(range(len(rows[0])))
    chance.shuffle(rows), chance.shuffle(columns)
    names = list(range(1 + max(map(max, rows))))
    chance.shuffle(names)
    return tuple([tuple([names[row[at]] for at in columns]) for row in rows])


def some_rows():
    """The rows of many colourings that go, of all sides, some of which cannot be signed."""
    chance = random.Random(101)
    found = [TWO.rows, EIGHTS.rows, SIXTEENS.rows, ((0,),), tuple([(at,) for at in range(16)])]
    for most in (4, 8, 16, 64, 1024):
        for _ in range(8):
            firsts = chance.sample(range(most), chance.randrange(1, min(most, 16) + 1))
            seconds = chance.sample(range(most), chance.randrange(1, min(most, 16) + 1))
            found.append(shuffled(chance, numbered([[a ^ b for b in seconds] for a in firsts])))
    for many, size in ((3, 3), (3, 4), (4, 4)):
        some = [one.rows for one in all_colours(many, size, 16)]
        found.extend([shuffled(chance, rows) for rows in chance.sample(some, 10)])
    return found


def near_rows(chance, rows):
    """Rows near others: a cell changed, two cells exchanged, a row or a column twice."""
    many, size = len(rows), len(rows[0])
    colours = 1 + max(map(max, rows))
    changed = [list(row) for row in rows]
    changed[chance.randrange(many)][chance.randrange(size)] = chance.randrange(colours + 1)
    swapped = [list(row) for row in rows]
    (i, j), (k, l) = [(chance.randrange(many), chance.randrange(size)) for _ in range(2)]
    swapped[i][j], swapped[k][l] = swapped[k][l], swapped[i][j]
    doubled = [list(row) for row in rows]
    doubled[chance.randrange(many)] = doubled[chance.randrange(many)]
    columns = list(range(size))
    columns[chance.randrange(size)] = chance.randrange(size)
    again = [[row[at] for at in columns] for row in rows]
    return [tuple([tuple(row) for row in one]) for one in (changed, swapped, doubled, again)]


# Values that are no tuples of rows whose colours are as told.
NO_ROWS = NO_RATIOS + (
    ((),), ((0,), ()), ((0, 1), (1,)), ((0,), (1, 0)), [(0,)], [[0]], ([0],), ((0,), [1]), (0, 1), ((0, 2), (2, 0)),
    ((1,),), ((-1, 0),), ((0, 1), (True, 0)), ((False,),), ((0, 1), (1, None)), (("0",),), ((Ratio(0),),), (((0,),),),
    ((0, 10 ** 60),), ((0, 10 ** 99),), ((0, -10 ** 60),), ((0, 1, 3),), tuple([(at,) for at in range(17)]),
    (tuple(range(17)),), ((),) * 3, {0: (0,)}, "0 1/1 0", TWO, SignTable((1,)), ((0, 1), "10"),
)


class Going(Case, unittest.TestCase):
    def test_constants(self):
        self.assert_same([MAX_SIDE, MAX_WORD, MAX_SEARCHED], [16, 1024, 4])

    def test_rows_that_go(self):
        for rows in some_rows():
            self.assertIsNone(plain_breach(rows))
            self.assertIsNone(breach(rows))
            self.assertIs(is_going(rows), True)
            self.assert_same(Colours(rows).rows, rows)

    def test_rows_near_them(self):
        chance = random.Random(102)
        kinds = set()
        for rows in some_rows() * 4:
            for near in near_rows(chance, rows):
                if numbered(near) != near:
                    self.assert_error(InvalidColours, breach, near)
                    self.assert_error(InvalidColours, Colours, near)
                    self.assertIs(is_going(near), False)
                    near = numbered(near)
                wanted = plain_breach(near)
                kinds.add(wanted and wanted[0])
                self.assert_same(breach(near), wanted)
                self.assertIs(is_going(near), wanted is None)
                if wanted is not None:
                    self.assert_kept(Refused, "reason", wanted, Colours, near)
        self.assertEqual(kinds, {None, "row", "column", "corner"})

    def test_all_small_tables(self):
        for many, size in ((1, 2), (2, 1), (2, 2), (2, 3), (3, 2)):
            for cells in product(range(4), repeat=many * size):
                rows = tuple([cells[at:at + size] for at in range(0, len(cells), size)])
                if numbered(rows) == rows:
                    self.assert_same(breach(rows), plain_breach(rows))
                else:
                    self.assert_error(InvalidColours, breach, rows)

    def test_the_first_breach_is_told(self):
        wanted = {
            ((0, 0), (1, 2)): ("row", 0, 0, 1), ((0, 1), (0, 2)): ("column", 0, 0, 1),
            ((0, 1), (0, 0)): ("row", 1, 0, 1), ((0, 1, 2, 1, 0),): ("row", 0, 0, 4),
            ((0, 1), (2, 3), (4, 1), (5, 1), (0, 6)): ("column", 0, 0, 4), LATIN: ("corner", 0, 0, 1, 2),
            ((0, 1, 2), (3, 4, 0)): ("corner", 0, 0, 1, 2), ((0, 1), (2, 0)): ("corner", 0, 0, 1, 1),
        }
        for rows, told in wanted.items():
            self.assert_same([breach(rows), plain_breach(rows)], [told, told])

    def test_sides_of_16(self):
        wide = (tuple(range(16)),)
        self.assertIsNone(breach(wide))
        self.assertIsNone(breach(tuple(zip(*wide))))
        most = tuple([tuple(range(16 * at, 16 * at + 16)) for at in range(16)])
        self.assert_same([breach(most), Colours(most).many, Colours(most).pieces()], [None, 256, ()])

    def test_what_is_no_such_tuple(self):
        for rows in NO_ROWS:
            self.assert_error(InvalidColours, breach, rows)
            self.assert_error(InvalidColours, Colours, rows)
            self.assertIs(is_going(rows), False)


class Pieces(Case, unittest.TestCase):
    def test_by_the_definition(self):
        for rows in some_rows():
            self.assert_same(Colours(rows).pieces(), plain_pieces(rows))

    def test_two_cells_with_one_colour_are_corners_of_just_one_piece(self):
        for rows in some_rows()[:30]:
            counts = {}
            for piece in Colours(rows).pieces():
                first, second, third, last = corners(piece)
                for pair in ((first, last), (second, third)):
                    counts[pair] = counts.get(pair, 0) + 1
            cells = cells_of(rows)
            pairs = [pair for pair in combinations(sorted(cells), 2) if cells[pair[0]] == cells[pair[1]]]
            self.assertEqual(counts, dict.fromkeys(pairs, 1))


class Signed(Case, unittest.TestCase):
    def test_what_is_told_is_right(self):
        words = set()
        for rows in some_rows():
            colours = Colours(rows)
            told = signed(colours)
            self.assertIs(type(told), tuple)
            word, members = told
            words.add(word)
            if word == "signs":
                self.assert_same([type(members), len(members)], [tuple, len(rows)])
                self.assertTrue(all(type(row) is tuple and len(row) == len(rows[0]) for row in members))
                self.assertTrue(all(type(sign) is int and sign in (1, -1) for row in members for sign in row))
                self.assertTrue(fit(rows, members))
            else:
                self.assertEqual(word, "odd")
                self.assertLessEqual(len(members), 1000)
                self.assert_same(members, tuple(sorted(set(members))))
                self.assertTrue(is_odd_lot(rows, members))
            self.assertIs(is_signed(colours, told), True)
        self.assertEqual(words, {"signs", "odd"})

    def test_the_words_to_15_cannot_be_signed(self):
        word, lot = signed(SIXTEENS)
        self.assertEqual(word, "odd")
        self.assertTrue(is_odd_lot(SIXTEENS.rows, lot))

    def test_pairs_near_signs(self):
        chance = random.Random(103)
        for rows in some_rows():
            colours = Colours(rows)
            word, members = signed(colours)
            if word == "odd":
                continue
            for i, j in chance.sample(sorted(cells_of(rows)), min(5, len(cells_of(rows)))):
                turned = [list(row) for row in members]
                turned[i][j] = -turned[i][j]
                value = ("signs", tuple([tuple(row) for row in turned]))
                self.assertIs(is_signed(colours, value), fit(rows, turned))
                for wrong in (0, 2, -2, True, False, None, Ratio(1), "1", 10 ** 70):
                    turned[i][j] = wrong
                    self.assertIs(is_signed(colours, ("signs", tuple([tuple(row) for row in turned]))), False)
            i, j = chance.randrange(len(rows)), chance.randrange(len(rows[0]))
            turned = [[sign * (-1) ** ((a == i) + (b == j)) for b, sign in enumerate(row)]
                      for a, row in enumerate(members)]
            self.assertIs(is_signed(colours, ("signs", tuple([tuple(row) for row in turned]))), True)
            wrong = (
                members, ("signs", list(members)), ["signs", members], ("odd", members), ("signs", members, 1),
                ("signs",), ("signs", members[1:]), ("signs", members + members[:1]), ("sign", members),
                ("signs", [list(row) for row in members]), ("signs", tuple([list(row) for row in members])),
                ("signs", tuple([row[1:] for row in members])), ("signs", tuple([row + (1,) for row in members])),
                ("signs", ()), ("odd", ()), (members, "signs"),
            )
            for value in wrong:
                self.assertIs(is_signed(colours, value), False)

    def test_pairs_near_an_odd_lot(self):
        chance = random.Random(104)
        _, lot = signed(SIXTEENS)
        others = [index for index in range(960) if index not in lot]
        for _ in range(60):
            left = list(lot)
            left.remove(chance.choice(lot))
            self.assertIs(is_signed(SIXTEENS, ("odd", tuple(left))), False)
            more = tuple(sorted(left + [chance.choice(others)]))
            self.assertIs(is_signed(SIXTEENS, ("odd", more)), is_odd_lot(SIXTEENS.rows, more))
        wrong = (
            lot, ("odd", list(lot)), ["odd", lot], ("odd", lot[::-1]), ("odd", lot[:1] + lot), ("signs", lot),
            ("odd", lot + (960,)), ("odd", (-1,) + lot), ("odd", lot, None), ("odd", ()), ("odd", (lot,)),
            ("odd", (True,) + lot[1:]), ("odd", None), ("ODD", lot), (None, lot), ("odd", lot[:-1] + (10 ** 70,)),
        )
        for value in wrong:
            self.assertIs(is_signed(SIXTEENS, value), False)

    def test_odd_lots_of_any_length_are_right(self):
        # All lots with each cell an even number of times are sums: two right lots and a third one make a right one.
        chance = random.Random(105)
        lots = []
        for _ in range(12):
            rows, columns = chance.sample(range(16), 16), chance.sample(range(16), 16)
            moved = Colours(tuple([tuple([SIXTEENS.rows[i][j] for j in columns]) for i in rows]))
            word, lot = signed(moved)
            self.assertEqual(word, "odd")
            pieces, own = moved.pieces(), {piece: at for at, piece in enumerate(SIXTEENS.pieces())}
            found = []
            for i, k, j, l in [pieces[index] for index in lot]:
                first, last = sorted((rows[i], rows[k])), sorted((columns[j], columns[l]))
                found.append(own[tuple(first + last)])
            lots.append(set(found))
        for one, other, third in combinations(lots, 3):
            self.assertIs(is_signed(SIXTEENS, ("odd", tuple(sorted(one ^ other ^ third)))), True)
            self.assertIs(is_signed(SIXTEENS, ("odd", tuple(sorted(one ^ other)))), False)

    def test_other_values(self):
        for value in NO_RATIOS + (TWO, ((1, 1), (1, -1)), ("signs", TWO), (TWO, TWO), {"signs": 1}, ("solution", (3,))):
            self.assertIs(is_signed(TWO, value), False)
        self.assertIs(is_signed(TWO, ("signs", ((1, 1), (1, -1)))), True)

    def test_no_colouring(self):
        for value in NO_COLOURINGS:
            self.assert_error(InvalidColours, signed, value)
            self.assert_error(InvalidColours, is_signed, value, ("signs", ()))


class Formulas(Case, unittest.TestCase):
    def test_with_fitting_signs(self):
        chance = random.Random(106)
        for rows in some_rows():
            colours = Colours(rows)
            word, signs = signed(colours)
            if word == "odd":
                continue
            if colours.many > 32:
                self.assert_kept(TooMany, "most", 32, colours.formula, signs)
                continue
            formula = colours.formula(signs)
            self.assertIs(type(formula), Formula)
            self.assertEqual(formula.sizes, (len(rows), len(rows[0]), colours.many))
            for i, table in enumerate(formula.tables):
                for j, row in enumerate(table):
                    wanted = [signs[i][j] if at == rows[i][j] else 0 for at in range(colours.many)]
                    self.assert_same(row, tuple([Ratio(entry) for entry in wanted]))
            self.assertIs(formula.is_whole, True)
            x, y = small_row(chance, len(rows)), small_row(chance, len(rows[0]))
            plain_x, plain_y, z = fractions(x), fractions(y), [0] * colours.many
            for (i, j), colour in cells_of(rows).items():
                z[colour] += plain_x[i] * plain_y[j] * signs[i][j]
            self.assertEqual(fractions(formula(x, y)), z)
            square = operator.mul(*[sum([one * one for one in row]) for row in (plain_x, plain_y)])
            self.assertEqual(sum([one * one for one in z]), square)

    def test_the_tables_are_a_formula(self):
        for colours in (TWO, EIGHTS, EIGHTS.cut((0, 2, 5), (1, 2, 3, 7)), xor_colours((0, 1, 2), (0, 4, 8, 16))):
            self.assertTrue(is_formula(colours.formula(signed(colours)[1]).tables))

    def test_32_and_33_colours(self):
        for many, size, error in ((16, 2, None), (2, 16, None), (11, 3, TooMany), (3, 11, TooMany), (16, 16, TooMany)):
            colours = Colours(tuple([tuple(range(at * size, at * size + size)) for at in range(many)]))
            signs = ((1,) * size,) * many
            if error is None:
                self.assertEqual(colours.formula(signs).sizes, (many, size, 32))
            else:
                self.assert_kept(TooMany, "most", 32, colours.formula, signs)
            self.assert_error(InvalidOperation, colours.formula, signs[1:])
            self.assert_error(InvalidOperation, colours.formula, ((2,) * size,) * many)

    def test_signs_that_do_not_fit(self):
        wrong = NO_RATIOS + (
            ((1, 1), (1, 1)), ((-1, -1), (-1, -1)), ((1, -1), (1, -1)), ((1, 1), (1, 0)), ((1, 1), (1, -3)),
            ((True, 1), (1, -1)), [[1, 1], [1, -1]], ([1, 1], [1, -1]), ((1, 1, 1), (1, -1, 1)), ((1, 1), (1, -1), (1, 1)),
            ((1, 1),), ("signs", ((1, 1), (1, -1))), ((1, 1), (1, None)), ((1, 1), (1, Ratio(-1))), TWO,
        )
        for signs in wrong:
            self.assert_error(InvalidOperation, TWO.formula, signs)

    def test_colours_of_what_is_made(self):
        for rows in some_rows():
            colours = Colours(rows)
            word, signs = signed(colours)
            if word == "signs" and colours.many <= 32:
                found = colours_of(colours.formula(signs))
                self.assertIs(type(found), tuple)
                self.assertTrue(found[0] == colours)
                self.assert_same([type(found[0]), found[0].rows, found[1]], [Colours, rows, signs])

    def test_colours_of_formulas_that_are_cut(self):
        chance = random.Random(107)
        formulas = [formula_of_family(family(size)) for size in (2, 4, 8, 12, 16)]
        for formula in formulas:
            many, size, columns = formula.sizes
            for _ in range(6):
                firsts = tuple(sorted(chance.sample(range(many), chance.randrange(1, many + 1))))
                seconds = tuple(sorted(chance.sample(range(size), chance.randrange(1, size + 1))))
                cut = formula.cut(firsts, seconds)
                colours, signs = colours_of(cut)
                used = [at for at in range(columns) if any(row[at] for table in cut.tables for row in table)]
                for i, table in enumerate(cut.tables):
                    for j, row in enumerate(table):
                        self.assertEqual(used[colours.rows[i][j]], [at for at in range(columns) if row[at]][0])
                        self.assert_same(signs[i][j], row[used[colours.rows[i][j]]].top)
                self.assertEqual(colours.many, len(used))
                self.assertEqual(colours.formula(signs).sizes, (len(firsts), len(seconds), len(used)))
                self.assertTrue(colours.cut((0,), (0,)) == Colours(((0,),)))

    def test_colours_of_no_formula(self):
        for value in NO_RATIOS + (TWO, TWO.formula(((1, 1), (1, -1))).tables):
            self.assert_error(InvalidFormula, colours_of, value)

    def test_formulas_that_are_not_whole_or_too_great(self):
        third = Formula((table_of(((Ratio(3, 5), Ratio(4, 5)),)),))
        self.assert_error(InvalidOperation, colours_of, third)
        great = formula_of_family(family(32))
        self.assertEqual(great.sizes, (10, 32, 32))
        for formula in (great, great.exchanged(), great.cut((0,), tuple(range(17))),
                        great.exchanged().cut(tuple(range(17)), (0,))):
            self.assert_kept(TooMany, "most", 16, colours_of, formula)
        self.assertEqual(len(colours_of(great.cut((0, 1), tuple(range(16))))[1]), 2)
        # That a formula is not whole is told ahead of its size.
        broad = Formula((exact_turn(random.Random(112), 17, 30),))
        self.assertIs(broad.is_whole, False)
        self.assert_error(InvalidOperation, colours_of, broad)
        self.assert_error(InvalidOperation, colours_of, broad.exchanged())


class Methods(Case, unittest.TestCase):
    def test_cut(self):
        chance = random.Random(108)
        for rows in some_rows():
            firsts = tuple(sorted(chance.sample(range(len(rows)), chance.randrange(1, len(rows) + 1))))
            seconds = tuple(sorted(chance.sample(range(len(rows[0])), chance.randrange(1, len(rows[0]) + 1))))
            cut = Colours(rows).cut(firsts, seconds)
            self.assert_same([type(cut), cut.rows], [Colours, numbered([[rows[i][j] for j in seconds] for i in firsts])])
        self.assertTrue(EIGHTS.cut((0, 1), (2, 3)) == TWO)

    def test_cut_refuses(self):
        wide = xor_colours((0, 1), (0, 2, 4))
        for value in NO_INTEGERS + ((1, 0), (0, 0), (2,), (-1,), (0, 2), [0], (True,), (0, None), (10 ** 70,), 0, 1):
            if value != (1,):
                self.assert_error(InvalidOperation, wide.cut, value, (0,))
                self.assert_error(InvalidOperation, wide.cut, value, None)
                self.assert_error(InvalidOperation, wide.cut, (0,), value if value not in ((2,), (0, 2)) else (3,))
        self.assertEqual(wide.cut((1,), (2,)).rows, ((0,),))

    def test_exchanged(self):
        for rows in some_rows():
            turned = Colours(rows).exchanged()
            self.assert_same([type(turned), turned.rows], [Colours, tuple(zip(*rows))])
            self.assertTrue(turned.exchanged() == Colours(rows))

    def test_many(self):
        for rows in some_rows():
            self.assert_same(Colours(rows).many, len({colour for row in rows for colour in row}))

    def test_equal(self):
        for value in NO_COLOURINGS + (EIGHTS, Colours(((0, 1), (2, 3))), TWO.formula(((1, 1), (1, -1)))):
            self.assert_same([TWO == value, TWO != value], [False, True])
        self.assert_same([TWO == Colours(((0, 1), (1, 0))), TWO != Colours(((0, 1), (1, 0)))], [True, False])
        self.assert_same([TWO == Colours(((1, 0), (0, 1))), TWO == Colours(((0, 1),))], [False, False])

    def test_len_and_iteration(self):
        for rows in some_rows():
            colours = Colours(rows)
            self.assert_same([len(colours), list(colours), tuple(colours)], [len(rows), list(rows), rows])

    def test_str(self):
        self.assert_same([str(TWO), str(Colours(((0,),)))], ["0 1/1 0", "0"])
        for rows in some_rows():
            self.assert_same(str(Colours(rows)), "/".join([" ".join(map(str, row)) for row in rows]))

    def test_it_never_changes(self):
        colours = Colours(((0, 1), (1, 0)))
        for name in ("rows", "many"):
            self.assertRaises(AttributeError, setattr, colours, name, 1)
        colours.pieces(), colours.cut((0,), (1,)), colours.exchanged(), signed(colours), str(colours)
        self.assert_same(colours.rows, ((0, 1), (1, 0)))
        self.assertRaises(TypeError, operator.getitem, colours, 0)
        self.assertRaises(TypeError, operator.add, colours, colours)

    def test_all_is_defined_in_the_class_itself(self):
        names = ("rows", "many", "pieces", "formula", "cut", "exchanged", "__eq__", "__len__", "__iter__", "__str__")
        for name in names:
            self.assertIn(name, vars(Colours))
        for one in (Colours, all_colours, breach, colours_of, is_going, is_signed, least_signed, signed, xor_colours):
            self.assertEqual(one.__module__, module.__name__)


class Differences(Case, unittest.TestCase):
    def test_colours_of_words(self):
        chance = random.Random(109)
        for most in (2, 16, 100, 1024):
            for _ in range(20):
                firsts = tuple(sorted(chance.sample(range(most), chance.randrange(1, min(most, 16) + 1))))
                seconds = tuple(sorted(chance.sample(range(most), chance.randrange(1, min(most, 16) + 1))))
                colours = xor_colours(firsts, seconds)
                self.assertIs(type(colours), Colours)
                self.assert_same(colours.rows, numbered([[a ^ b for b in seconds] for a in firsts]))
        self.assertEqual(xor_colours((1023,), (0, 1023)).rows, ((1, 0),))

    def test_lots_without_a_difference_in_common(self):
        colours = xor_colours((0, 1, 2, 3), (0, 4, 8, 12, 16))
        self.assert_same([colours.many, colours.pieces()], [20, ()])
        chance = random.Random(110)
        for _ in range(20):
            signs = tuple([tuple([chance.choice((1, -1)) for _ in range(5)]) for _ in range(4)])
            self.assertIs(is_signed(colours, ("signs", signs)), True)
            self.assertEqual(colours.formula(signs).sizes, (4, 5, 20))

    def test_no_words(self):
        wrong = NO_RATIOS + (
            (-1,), (1024,), (0, 1024), (1, 0), (0, 0), (0, 1, 1), tuple(range(17)), [0], [0, 1], (True,), (False, 1),
            (None,), (0, "1"), (10 ** 60,), (-10 ** 60, 0), (0, (1,)), (Ratio(0),), range(3), {0: 1},
        )
        for value in wrong:
            if value == (1,):
                continue
            self.assert_error(InvalidOperation, xor_colours, value, (0,))
            self.assert_error(InvalidOperation, xor_colours, (0,), value)
            self.assert_error(InvalidOperation, xor_colours, value, None)
        self.assertEqual(len(xor_colours(tuple(range(1008, 1024)), (0, 1023))), 16)


def growing(cells):
    """Whether the colours come for the first time in ascending order."""
    found = list(dict.fromkeys(cells))
    return found == list(range(len(found)))


class Listed(Case, unittest.TestCase):
    def test_against_writing_cell_by_cell(self):
        for many, size in product(range(1, 4), repeat=2):
            lots = [()]
            for _ in range(many * size):
                lots = [cells + (colour,) for cells in lots for colour in range(max(cells, default=-1) + 2)]
            wanted = [tuple([cells[at:at + size] for at in range(0, len(cells), size)]) for cells in lots]
            wanted = [rows for rows in wanted if plain_breach(rows) is None]
            for most in (1, 2, 3, 4, 6, 9, 16):
                found = [one.rows for one in all_colours(many, size, most)]
                self.assert_same(found, [rows for rows in wanted if max(map(max, rows)) < most])

    def test_sizes_to_4(self):
        for many, size in product(range(1, 5), repeat=2):
            found = list(all_colours(many, size, 16))
            self.assertEqual({type(one) for one in found}, {Colours})
            rows = [one.rows for one in found]
            self.assertEqual(rows, sorted(set(rows)))
            for one in rows:
                self.assertIsNone(plain_breach(one))
                self.assertEqual((len(one), len(one[0])), (many, size))
                self.assertTrue(growing([colour for row in one for colour in row]))
            turned = [[list(dict.fromkeys([c for row in zip(*one) for c in row])).index(c) for row in zip(*one)
                       for c in row] for one in rows]
            others = [[c for row in one for c in row] for one in [other.rows for other in all_colours(size, many, 16)]]
            self.assertEqual(sorted(turned), others)
            for most in (4, 7, 16):
                self.assertEqual([one.rows for one in all_colours(many, size, most)],
                                 [one for one in rows if max(map(max, one)) < most])

    def test_what_is_yielded_is_given_one_by_one(self):
        lots = all_colours(2, 2, 16)
        self.assertEqual([next(lots).rows, next(lots).rows], [((0, 1), (1, 0)), ((0, 1), (2, 3))])
        self.assertRaises(StopIteration, next, lots)
        self.assertEqual([list(all_colours(4, 4, most)) for most in (1, 2, 3)], [[], [], []])

    def test_errors_when_the_first_one_is_asked_for(self):
        for value in NO_INTEGERS + (0, -1, 5, 17, 10 ** 70):
            lots = all_colours(value, None, None)
            self.assert_number(value, next, lots)
            self.assert_number(value, next, all_colours(2, value, None))
            self.assert_number(value, least_signed, value, None)
            self.assert_number(value, least_signed, 1, value)
            if value != 5:
                self.assert_number(value, next, all_colours(4, 4, value))
        self.assertEqual(len(list(all_colours(1, 4, 4))), 1)
        self.assertRaises(InvalidNumber, list, all_colours(4, 4, 17))

    def test_least_signed(self):
        for many, size in product(range(1, 5), repeat=2):
            told = least_signed(many, size)
            self.assertIs(type(told), int)
            some = [one.many for one in all_colours(many, size, 16) if signed(one)[0] == "signs"]
            self.assertEqual([told, told], [min(some), least_let(many, size)])


class NotTrue(Case, unittest.TestCase):
    """The sentences of [10.7], and [0.14]."""

    def test_each_colouring_that_goes_has_signs_that_fit(self):
        self.assert_same([is_going(SIXTEENS.rows), signed(SIXTEENS)[0]], [True, "odd"])

    def test_a_colouring_without_a_colour_twice_in_a_row_or_a_column_goes(self):
        self.assertTrue(all(len(set(line)) == 3 for line in list(LATIN) + list(zip(*LATIN))))
        self.assertIs(is_going(LATIN), False)

    def test_signs_fit_if_they_do_for_all_cuts_by_a_row(self):
        colours = SIXTEENS
        while True:
            cuts = [
                colours.cut(tuple([at for at in range(len(colours)) if at != left]), tuple(range(16)))
                for left in range(len(colours))
            ]
            odd = [cut for cut in cuts if signed(cut)[0] == "odd"]
            if not odd:
                break
            colours = odd[0]
        self.assertEqual(signed(colours)[0], "odd")
        self.assertEqual({signed(cut)[0] for cut in cuts}, {"signs"})

    def test_signs_are_told_but_for_whole_rows_and_columns(self):
        colours = Colours(((0, 1), (2, 3)))
        # Whole rows and columns that are turned leave the product of all four signs as it is.
        self.assertIs(is_signed(colours, ("signs", ((1, 1), (1, 1)))), True)
        self.assertIs(is_signed(colours, ("signs", ((1, 1), (1, -1)))), True)

    def test_never_both(self):
        for rows in some_rows():
            if signed(Colours(rows))[0] == "odd":
                chance = random.Random(111)
                for _ in range(10):
                    signs = tuple([tuple([chance.choice((1, -1)) for _ in row]) for row in rows])
                    self.assertIs(is_signed(Colours(rows), ("signs", signs)), False)

    def test_sign_tables_of_2_4_and_8(self):
        for many in (1, 2, 3):
            tables = [sign.table() for sign in told_signs(many)]
            colours, signs = colours_of(Formula(tuple(tables)))
            size = 2 ** many
            self.assertEqual(colours.rows, tuple([tuple([x ^ y for y in range(size)]) for x in range(size)]))
            self.assertIs(is_signed(colours, ("signs", signs)), True)
            self.assertEqual(turned_table(tables[0]), tables[0])


if __name__ == "__main__":
    unittest.main()
