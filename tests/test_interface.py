"""The interface of the document as a whole: its names and parameters, and [0.4] and [0.5] for all functions."""

import importlib
import inspect
import random
import unittest

from squaretimes import errors
from squaretimes.base.ratios import Ratio
from squaretimes.base.tables import idle_table
from squaretimes.colour.colours import Colours, xor_colours
from squaretimes.desk.designs import Design
from squaretimes.desk.desk import Desk
from squaretimes.double.doubled import Doubled
from squaretimes.form.radon import family, formula_of_family
from squaretimes.form.signs import SignTable
from squaretimes.times.handed import times_of_algebra
from squaretimes.whole.eights import WholeOrder
from tests.helper import Case, error_of

# Each module with its constants, its functions and its classes. What stands behind a class is listed for it.
LISTED = """
base.ratios: Ratio(top, bottom) read(text) top bottom sign over(other) compared(other)
base.tables: MAX_SIDE=32 is_table(value) table_of(rows) idle_table(size) table_sum(one, other) table_product(one, other)
  turned_table(table) scaled_table(table, ratio) row_led(values, table) table_trace(table) determinant(table)
  sum_of_squares(values)
base.parity: MAX_ROWS=2000 solved(rows, sides) is_solved(rows, sides, value)
square.sums: MAX_SQUARED=100000000 MAX_MANY=16 is_sum(ratio, many) squares_of(ratio, many) whole_squares(number, many)
  made_whole(values) open_pair(many) is_open_pair(many, value)
square.levels: MAX_LEVELLED=10000 level(number) level_paper(number) is_level_paper(number, value)
form.signs: MAX_SIZE=64 SignTable(marks) idle(size) read(text) size marks trace is_idle turned() table()
form.formulas: MAX_SIDE=32 broken(tables) is_formula(value)
  Formula(tables) sizes tables is_whole cut(firsts, seconds) exchanged() beside(other) above(other)
form.radon: MAX_NUMBER=1000000000 MAX_FAMILY=64 MAX_FURTHER=8 MAX_GROWN=4 rho(number) is_family(value) broken_pair(tables)
  family(size) copied(family, many) grown(family) word_of(family, indices) bar(family) further(family)
  formula_of_family(family)
double.doubled: MAX_SQUARE=1000000 MAX_DOUBLINGS=4 MAX_POWER=1000 MAX_NOUGHT=30 associator(one, other, third)
  nought_pair(algebra) is_nought_pair(algebra, value)
  Doubled(squares) squares dimension is_definite one() units()
  Element(algebra, entries, bottom) algebra entries bottom trace norm is_ratio mate() inverse() power(many) scaled(ratio)
double.eights: MAX_SQUARE=30 MAX_WANTED=1000 are_alike(one, other) images(one, other) is_images(one, other, value)
  led(one, other, way, element) taken_back(one, other, way) followed(one, other, third, first, second)
  with_square(algebra, number) is_with_square(algebra, number, value)
times.handed: MAX_TIMES=8 MAX_WEIGHT=30 times_of_algebra(algebra) with_one(times, values) recognised(times)
  is_recognised(times, value)
  Times(weights, tables) weights tables dimension is_composing weighed(x) one() broken_rule()
times.areas: MAX_UNKNOWNS=9 row_product(tables, one, other) area(one, other) area_tables(size) is_area_product(value)
  broken_area(tables) is_broken_area(tables, value) times_of_area(tables)
fold.folded: MAX_FOLDED=16 folded_table(values) folded(one, other) unfolded(one, other) is_folding(values, value)
colour.colours: MAX_SIDE=16 MAX_WORD=1024 MAX_SEARCHED=4 is_going(value) breach(rows) signed(colours)
  is_signed(colours, value) colours_of(formula) xor_colours(rows, columns) all_colours(many_rows, many_columns, most)
  least_signed(many_rows, many_columns)
  Colours(rows) rows many pieces() formula(signs) cut(firsts, seconds) exchanged()
colour.bars: MAX_SIZE=1000 MAX_NUMBER=2000 MAX_TOLD=9 least_let(r, s) is_let(r, s, n) odd_binomial(r, s, n)
  is_odd_binomial(r, s, n, value) left_terms(r, s, n) told_formula(r, s)
word.words: MAX_LETTERS=10 MAX_MADE=5 word_sign(x, y, many) word_weight(x, many) are_let(firsts, seconds, many)
  clash(firsts, seconds, many) is_clash(firsts, seconds, many, value) words_formula(firsts, seconds, many)
  greatest_let(many)
word.worlds: MAX_UNITS=8 word_product(plus, minus, one, other) centre(plus, minus) even_units(plus, minus)
  is_even_units(plus, minus, value) world_of(plus, minus) least_size(plus, minus) images_of_units(plus, minus)
  is_images_of_units(plus, minus, value)
whole.eights: MAX_LISTED=2 MAX_COUNTED=1000000 is_primitive_in(order, value) divided(order, one, other, ahead)
  is_divided(order, one, other, value, ahead) factors(order, element, norm) is_factors(order, element, norm, value)
  left_factors(order, element, norm) ideal_number(order, asked) ideal_paper(order, element)
  is_ideal_paper(order, element, value) is_of_kirmse(value) kirmse_pair()
  WholeOrder(at) at basis() units() of_norm(norm) count_of_norm(norm)
text.formats: write_element(element) write_formula(formula) read_element(text) read_formula(text)
desk.designs: MAX_DESIGN=32
  Design(family) family size rows places(index) sent(values) read_back(table) is_sent(value) mended(table)
desk.desk: MAX_NAME=8 MAX_SAID=30
  Desk() things sayings past do(deeds) say(saying) unsay(saying) is_true(value) undo(steps) twin()
"""
KINDS = {
    "SquareError": ValueError, "InvalidNumber": IndexError, "UnknownName": KeyError, "TooMany": OverflowError,
    "Refused": ArithmeticError, "NothingToUndo": LookupError,
}
OWN = tuple([kind for kind in vars(errors).values() if isinstance(kind, type)])
EIGHT = Doubled((-1, -1, -1))
E = EIGHT.units()
HALF, TURN = (Ratio(3, 5), Ratio(4, 5)), SignTable((2, -1))
VALUES = (
    0, 1, 2, 3, 4, 5, 7, 8, 10, 16, 64, -1, -2, True, False, None, "", "a", "1 2", "[] 5", "1/2", "a\tb\n", "x" * 4000,
    10 ** 59, 10 ** 60, 10 ** 99, -(10 ** 99), (), (0,), (1,), (0, 1), (1, 2), (1, 1), (0, 1, 2), (1, 2, 3), (1, 2, 3, 4),
    [], [1], {}, {"a": 1}, ((((((((1,),),),),),),),), ((0, 1), (1, 0)), ((0, 1), (1,)), ("signs", ((1, 1), (1, -1))),
    ("odd", (0,)), ("solution", ()), ("unit", "a"), ("put", "a", TURN), (0, 1, 0, 1), (1, 14, 3, 12), (3, 5),
    Ratio(1), Ratio(1, 2), Ratio(-3), HALF, (HALF, (Ratio(-4, 5), Ratio(3, 5))), idle_table(1), idle_table(2),
    TURN.table(), (idle_table(2), TURN.table()), SignTable((1,)), TURN, SignTable((1, 2)), (TURN,), (None, TURN),
    family(2), family(4), formula_of_family(family(2)), formula_of_family(family(4)), Doubled(()), Doubled((-1,)),
    Doubled((-1, -1)), EIGHT, Doubled((1, 1, 1)), Doubled((-1, -1, -1, -1)), E[0], E[1], E[0] + E[2], Doubled((-1,)).one(),
    (E[0],), (E[0], E[0]), (E[1], E[2], E[4]), ((E[0], E[0], E[0]),), (E[0], 1), (1, E[0]),
    times_of_algebra(Doubled((-1,))), times_of_algebra(EIGHT), Colours(((0, 1), (1, 0))), xor_colours((0, 1, 2), (0, 4)),
    WholeOrder(1), WholeOrder(4), Desk(), Design(family(4)), (Doubled((-1,)), idle_table(2)),
)


def listed():
    """Triples of a module, the name of a class or None, and an entry of the listing."""
    module = owner = None
    for line in LISTED.strip().splitlines():
        head, mark, _ = line.partition(": ")
        if mark:
            module, owner, line = head, None, line[len(head) + 2:]
        for entry in line.replace(", ", ",").split():
            if entry[0].isupper() and "=" not in entry:
                owner = entry.partition("(")[0]
                yield module, None, entry
            else:
                yield module, owner, entry


def module_named(name):
    return importlib.import_module("squaretimes." + name)


class Names(Case, unittest.TestCase):
    def test_all_names_and_parameters(self):
        count = 0
        for module, owner, entry in listed():
            place = module_named(module)
            name, call, parameters = entry.partition("(")
            if "=" in name:
                name, _, worth = name.partition("=")
                self.assert_same(vars(place)[name], int(worth))
                continue
            count += 1
            found = vars(place)[name] if owner is None else vars(vars(place)[owner])[name]
            if not call:
                self.assertIsInstance(found, property, entry)
                continue
            found = getattr(found, "__func__", found)
            self.assertEqual(found.__module__, place.__name__, entry)
            wanted = [one for one in parameters.rstrip(")").split(",") if one]
            told = [one for one in inspect.signature(found).parameters if one != "self"]
            self.assertEqual(told, wanted, entry)
        self.assertGreater(count, 180)

    def test_errors(self):
        for kind in OWN:
            (base,) = kind.__bases__
            self.assertIs(base, KINDS.get(kind.__name__, errors.SquareError))
        self.assertEqual(len(OWN), 16)

    def test_ahead_is_passed_by_keyword(self):
        eights = module_named("whole.eights")
        for name in ("divided", "is_divided"):
            word = inspect.signature(getattr(eights, name)).parameters["ahead"]
            self.assertEqual([word.kind, word.default], [word.KEYWORD_ONLY, False])


def calls():
    """Pairs of a name and of what can be called: all functions, classes and methods of the listing."""
    for module, owner, entry in listed():
        name, call, _ = entry.partition("(")
        if call and owner is None:
            yield name, getattr(module_named(module), name)
        elif call:
            kind = getattr(module_named(module), owner)
            for value in [value for value in VALUES if isinstance(value, kind)][:3]:
                yield name, getattr(value.twin() if kind is Desk else value, name)


def nested(chance, depth=0):
    """A value, perhaps within tuples, lists and dicts."""
    step = chance.randrange(7 if depth < 4 else 1)
    if step == 4:
        return tuple([nested(chance, depth + 1) for _ in range(chance.randrange(4))])
    if step == 5:
        return [nested(chance, depth + 1) for _ in range(chance.randrange(3))]
    return {"k": nested(chance, depth + 1)} if step == 6 else chance.choice(VALUES)


class Refusals(Case, unittest.TestCase):
    def test_any_values_are_accepted_or_refused(self):
        chance = random.Random(201)
        for name, call in calls():
            parameters = inspect.signature(call).parameters.values()
            for _ in range(120):
                given, named = [], {}
                for one in parameters:
                    if one.kind == one.KEYWORD_ONLY:
                        named[one.name] = nested(chance)
                    else:
                        given.append(nested(chance))
                self.judge(name, call, given, named)

    def judge(self, name, call, given, named):
        def asked():
            told = call(*given, **named)
            if name.startswith(("is_", "are_")):
                self.assertIn(told, (True, False))
                self.assertIs(type(told), bool)
            if inspect.isgenerator(told):
                next(told, None)
        error = error_of(asked)
        self.assertTrue(error is None or type(error) in OWN, (name, given, named, error))

    def test_judged_values_raise_no_errors(self):
        right = {
            "is_solved": (((0,),), (1,)), "is_open_pair": (3,), "is_level_paper": (2,),
            "is_nought_pair": (EIGHT,), "is_images": (EIGHT, EIGHT), "is_with_square": (EIGHT, -1),
            "is_recognised": (times_of_algebra(EIGHT),), "is_broken_area": (((idle_table(1)),),), "is_folding": ((1, 2),),
            "is_signed": (Colours(((0, 1), (1, 0))),), "is_odd_binomial": (3, 5, 6), "is_clash": ((0, 15), (0, 15), 4),
            "is_even_units": (1, 1), "is_images_of_units": (1, 1), "is_primitive_in": (WholeOrder(2),),
            "is_divided": (WholeOrder(1), E[1], E[2]), "is_factors": (WholeOrder(1), E[0] + E[1], 2),
            "is_ideal_paper": (WholeOrder(1), E[1]),
        }
        chance = random.Random(202)
        judged = {}
        for name, call in calls():
            words = [one.name for one in inspect.signature(call).parameters.values() if one.kind != one.KEYWORD_ONLY]
            if name.startswith(("is_", "are_")) and "value" in words:
                self.assertEqual(words.index("value"), len(words) - 1)
                ahead = right.get(name, ())
                self.assertEqual(len(ahead), len(words) - 1, name)
                for value in VALUES + tuple([nested(chance) for _ in range(300)]):
                    self.assertIs(type(call(*ahead, value)), bool)
                judged[name] = True
        self.assertLessEqual(set(right), set(judged))
        self.assertGreater(len(judged), 25)

    def test_objects_are_not_iterated_over_or_changed_in_other_ways(self):
        for value in VALUES:
            if type(value).__module__.startswith("squaretimes"):
                if not isinstance(value, (Colours, WholeOrder, Desk)):
                    self.assertRaises(TypeError, iter, value)
                self.assertIs(value == value, True)
                self.assertIs(value != value, False)
                for other in VALUES:
                    self.assertIs(type(value == other), bool)
                    self.assertIs(value != other, not value == other)


if __name__ == "__main__":
    unittest.main()
