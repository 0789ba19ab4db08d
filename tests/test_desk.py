"""[15.5] to [15.7]: a desk of things and sayings."""

import operator
import random
import unittest

from squaretimes.base.ratios import Ratio
from squaretimes.base.tables import table_of
from squaretimes.colour.bars import told_formula
from squaretimes.colour.colours import Colours
from squaretimes.desk import desk as module
from squaretimes.desk.desk import MAX_NAME, MAX_SAID, Desk
from squaretimes.double.doubled import Doubled, Element
from squaretimes.errors import InvalidOperation, NothingToUndo, Refused, TooMany, UnknownName
from squaretimes.form.formulas import Formula
from squaretimes.form.radon import family, formula_of_family
from squaretimes.form.signs import SignTable
from squaretimes.times.handed import times_of_algebra
from tests.helper import NO_INTEGERS, NO_RATIOS, TOO_GREAT, Case, error_of

ROUND, FLIP = SignTable((2, -1)), SignTable((-1, 2))
A, B = SignTable((2, -1, 4, -3)), SignTable((3, -4, -1, 2))
FOUR, SPLIT = Doubled((-1, -1)), Doubled((1, 1))
I, J, K = FOUR.units()[1:]
TWO = formula_of_family(family(2))
BROAD = told_formula(1, 9).beside(told_formula(1, 9))
NO_NAMES = (
    "", "A", "a b", "a1", "1", "abcdefghi", "aZ", "a\n", "a\t", " a", "a ", "_", "a" * 4000, None, True, 0, 1, ("a",), ["a"],
    {"a": 1}, (), b"a", Ratio(1), A, 10 ** 70,
)
NO_THINGS = tuple([value for value in NO_RATIOS if not isinstance(value, SignTable)]) + (
    Ratio(1), FOUR, (A,), [A], A.marks, A.table(), TWO.tables, Colours(((0,),)), times_of_algebra(FOUR), Desk(), "a",
)


def copy_of(things):
    return dict(things)


class Record:
    """The same as a desk, kept plainly: each call tells the error that is due, or None."""

    def __init__(self):
        self.things, self.sayings, self.steps = {}, [], []

    def keep(self, things, sayings):
        if things != self.things or sayings != self.sayings:
            self.steps.append((self.things, self.sayings))
            self.things, self.sayings = things, sayings

    def do(self, *deeds):
        things = copy_of(self.things)
        for index, deed in enumerate(deeds):
            error = self.done(things, deed, index)
            if error:
                return error
        for saying in self.sayings:
            if [name for name in names_of(saying) if name not in things]:
                return Refused, ("taken", saying)
        for saying in self.sayings:
            if not holds(things, saying):
                return Refused, ("broken", saying)
        self.keep(things, self.sayings)
        return None

    def done(self, things, deed, index):
        word, name, rest = deed[0], deed[1], deed[2:]
        if word == "put":
            things[name] = rest[0]
            return None
        for one in rest or (name,):
            if one not in things:
                return UnknownName, one
        if word == "take":
            del things[name]
            return None
        some = [things[one] for one in rest or (name,)]
        made = self.made(word, some)
        if isinstance(made, str):
            return Refused, (made, index)
        things[name] = made
        return None

    def made(self, word, some):
        kinds = {type(one) for one in some}
        if word == "turn":
            return {SignTable: lambda one: one.turned(), Element: lambda one: one.mate(),
                    Formula: lambda one: one.exchanged()}[kinds.pop()](some[0])
        if word == "minus":
            return "kinds" if kinds == {Formula} else -some[0]
        if word == "times":
            one, other = some
            if kinds == {SignTable} and one.size == other.size or kinds == {Element} and one.algebra == other.algebra:
                return one * other
            return "kinds"
        at = ("beside", "above").index(word)
        if kinds != {Formula} or some[0].sizes[at] != some[1].sizes[at]:
            return "kinds"
        if some[0].sizes[2] + some[1].sizes[2] > 32:
            return "great"
        return some[0].beside(some[1]) if word == "beside" else some[0].above(some[1])

    def say(self, saying):
        for name in names_of(saying):
            if name not in self.things:
                return UnknownName, name
        if saying in self.sayings:
            return None
        if len(self.sayings) == 30:
            return TooMany, 30
        if not holds(self.things, saying):
            return Refused, ("false",)
        self.keep(self.things, self.sayings + [saying])
        return None

    def unsay(self, saying):
        if saying not in self.sayings:
            return UnknownName, saying
        self.keep(self.things, [one for one in self.sayings if one != saying])
        return None

    def undo(self, steps):
        if steps > len(self.steps):
            return NothingToUndo, steps
        for _ in range(steps):
            self.things, self.sayings = self.steps.pop()
        return None


def names_of(saying):
    return saying[1:] if saying[0] in ("equal", "against") else saying[1:2]


def holds(things, saying):
    """Whether a saying is true, by [15.5]."""
    word, one, *rest = saying
    one = things[one]
    if word == "equal":
        return one == things[rest[0]]
    if word == "against":
        other = things[rest[0]]
        if type(one) is not type(other) or isinstance(one, Formula):
            return False
        alike = one.size == other.size if isinstance(one, SignTable) else one.algebra == other.algebra
        return alike and one * other == -(other * one)
    if word == "unit":
        if isinstance(one, SignTable):
            return one.turned() == -one
        return isinstance(one, Element) and one * one == -one.algebra.one()
    if word == "norm":
        return isinstance(one, Element) and one.norm == rest[0]
    return isinstance(one, Formula) and one.sizes == rest[0]


SOME_THINGS = (
    A, B, A * B, -A, ROUND, FLIP, SignTable.idle(2), I, J, K, I + J, FOUR.one(), Element(FOUR, (1, 0, 2, 0), 3),
    SPLIT.units()[1], SPLIT.one() + SPLIT.units()[1], SPLIT.one() - SPLIT.units()[1], TWO, TWO.exchanged(),
    formula_of_family(family(4)), told_formula(2, 3), told_formula(1, 9), BROAD, told_formula(3, 2),
)
NAMES = ("a", "b", "c", "dd", "z")


def any_deed(chance, some=SOME_THINGS):
    word = chance.choice(("put", "put", "take", "minus", "turn", "times", "times", "beside", "above"))
    if word == "put":
        return word, chance.choice(NAMES), chance.choice(some)
    if word in ("take", "minus", "turn"):
        return word, chance.choice(NAMES)
    return word, chance.choice(NAMES), chance.choice(NAMES), chance.choice(NAMES)


def any_saying(chance, things):
    word = chance.choice(("equal", "against", "unit", "norm", "sizes"))
    name = chance.choice(NAMES)
    if word in ("equal", "against"):
        return word, name, chance.choice(NAMES)
    if word == "unit":
        return word, name
    thing = things.get(name)
    if word == "norm":
        return word, name, thing.norm if isinstance(thing, Element) else Ratio(chance.randrange(3))
    return word, name, thing.sizes if isinstance(thing, Formula) else chance.choice(((2, 2, 2), (4, 4, 4), (1, 9, 9)))


class Histories(Case, unittest.TestCase):
    def judge(self, desk, record, due, call, *given):
        before = (desk.things, desk.sayings, desk.past)
        if due is None:
            self.assertIsNone(call(*given))
        else:
            kind, kept = due
            name = {Refused: "reason", UnknownName: "wanted", TooMany: "most", NothingToUndo: "steps"}[kind]
            self.assert_kept(kind, name, kept, call, *given)
            self.assertEqual((desk.things, desk.sayings, desk.past), before)
        self.alike(desk, record)

    def alike(self, desk, record):
        self.assert_same(desk.sayings, tuple(record.sayings))
        self.assertTrue(desk.things == record.things)
        self.assertEqual([desk.past, len(desk), list(desk)],
                         [len(record.steps), len(record.things), sorted(record.things)])
        self.assertTrue(all(desk.is_true(saying) is True for saying in desk.sayings))
        self.assertEqual(str(desk), f"desk: {len(record.things)} things, {len(record.sayings)} sayings")

    def test_against_a_record(self):
        reasons = {}
        formulas = [thing for thing in SOME_THINGS if isinstance(thing, Formula)]
        others = [thing for thing in SOME_THINGS if not isinstance(thing, Formula)]
        for seed in range(90):
            chance = random.Random(seed)
            desk, record = Desk(), Record()
            some = (SOME_THINGS, formulas, others)[seed % 3]
            for _ in range(60):
                step = chance.randrange(10)
                if step < 5:
                    given = [any_deed(chance, some) for _ in range(chance.choice((1, 1, 1, 2, 3, 6)))]
                    due = record.do(*given)
                    call = desk.do
                elif step < 8:
                    given = [any_saying(chance, record.things)]
                    due = record.say(*given)
                    call = desk.say
                elif step < 9 and record.sayings:
                    given = [chance.choice(record.sayings)] if chance.randrange(3) else [any_saying(chance, record.things)]
                    due = record.unsay(*given)
                    call = desk.unsay
                else:
                    given = [chance.choice((1, 1, 2, 3, 50))]
                    due = record.undo(*given)
                    call = desk.undo
                self.judge(desk, record, due, call, *given)
                if due:
                    reasons[due[1][0] if due[0] is Refused else due[0]] = True
                saying = any_saying(chance, record.things)
                right = all(name in record.things for name in names_of(saying)) and holds(record.things, saying)
                self.assertIs(desk.is_true(saying), right)
            while record.steps:
                self.judge(desk, record, record.undo(1), desk.undo)
            self.assert_same([desk.past, desk.things, desk.sayings], [0, {}, ()])
        self.assertEqual(set(reasons), {"kinds", "great", "taken", "broken", "false", UnknownName, NothingToUndo})

    def test_a_step_and_undo(self):
        chance = random.Random(181)
        desk = Desk()
        for _ in range(300):
            before, past = (desk.things, desk.sayings), desk.past
            deeds = [any_deed(chance) for _ in range(chance.randrange(1, 4))]
            if error_of(desk.do, *deeds) is None and desk.past > past:
                self.assertEqual(desk.past, past + 1)
                self.assertFalse((desk.things, desk.sayings) == before)
                if chance.randrange(3) == 0:
                    desk.undo()
                    self.assertEqual((desk.things, desk.sayings, desk.past), before + (past,))
            else:
                self.assertEqual((desk.things, desk.sayings, desk.past), before + (past,))


def made(**things):
    desk = Desk()
    desk.do(*[("put", name, things[name]) for name in things])
    return desk


class Deeds(Case, unittest.TestCase):
    def test_constants(self):
        self.assert_same([MAX_NAME, MAX_SAID], [8, 30])

    def test_what_is_no_deed(self):
        desk = made(a=A, b=B)
        wrong = NO_RATIOS + ((), ("put",), ("put", "a"), ("put", "a", A, A), ("take",), ("take", "a", "b"), ("minus",),
                             ("minus", "a", "b"), ("turn", "a", A), ("times", "a"), ("times", "a", "b"),
                             ("times", "a", "b", "a", "b"), ("beside", "a", "b"), ("above", "a", "b"), ("Put", "a", A),
                             ("say", "a"), ("", "a"), ("plus", "a", "b", "a"), ("take", "a", "b", "a"), (None, "a"), (("put",), "a", A), (["put"], "a", A), ["take", "a"],
                             (1, "a"), "take a", ("undo",), ({}, "a", A), (A, "a", A), {"take": "a"}, (True, "a"))
        wrong = wrong + tuple([("put", "a", thing) for thing in NO_THINGS])
        for name in NO_NAMES:
            wrong = wrong + (("put", name, A), ("take", name), ("minus", name), ("turn", name), ("times", name, "a", "b"),
                             ("times", "a", name, "b"), ("times", "a", "b", name), ("beside", "a", name, "b"),
                             ("above", "a", "b", name))
        for deed in wrong:
            self.assert_error(InvalidOperation, desk.do, deed)
            self.assert_error(InvalidOperation, desk.do, ("take", "a"), deed)
            self.assert_error(InvalidOperation, desk.do, ("take", "zz"), deed, ("take", "zz"))
        self.assertEqual([desk.things == {"a": A, "b": B}, desk.past], [True, 1])

    def test_names_of_eight_and_nine_letters(self):
        desk = made(abcdefgh=A)
        self.assertIn("abcdefgh", desk)
        self.assert_error(InvalidOperation, desk.do, ("put", "abcdefghi", A))
        self.assert_error(InvalidOperation, desk.say, ("unit", "abcdefghi"))
        self.assert_kept(UnknownName, "wanted", "abcdefgz", desk.do, ("take", "abcdefgz"))
        desk.say(("unit", "abcdefgh"))
        self.assert_kept(UnknownName, "wanted", "abcdefghi", operator.getitem, desk, "abcdefghi")

    def test_each_deed(self):
        desk = made(a=A, b=B, e=I, f=J, t=TWO, u=told_formula(2, 3))
        desk.do(("times", "c", "a", "b"), ("times", "g", "e", "f"), ("beside", "v", "t", "u"), ("minus", "a"),
                ("minus", "e"), ("turn", "b"), ("turn", "f"), ("turn", "u"))
        self.assertTrue(desk.things == {
            "a": -A, "b": B.turned(), "c": A * B, "e": -I, "f": J.mate(), "g": I * J, "t": TWO,
            "u": told_formula(2, 3).exchanged(), "v": TWO.beside(told_formula(2, 3)),
        })
        desk.do(("above", "v", "u", "u"), ("take", "t"), ("put", "a", I))
        self.assertEqual([desk["v"].sizes, "t" in desk, desk["a"] == I, desk.past], [(6, 2, 8), False, True, 3])
        # The name that stands for the product can be one of the factors, or new.
        desk.do(("times", "g", "g", "g"), ("times", "new", "g", "e"))
        self.assertEqual([desk["g"] == (I * J) * (I * J), desk["new"] == (I * J) * (I * J) * -I], [True, True])

    def test_names_that_stand_for_nothing(self):
        desk = made(a=A, t=TWO)
        for word in ("take", "minus", "turn"):
            self.assert_kept(UnknownName, "wanted", "x", desk.do, (word, "x"))
        for word in ("times", "beside", "above"):
            self.assert_kept(UnknownName, "wanted", "x", desk.do, (word, "y", "x", "y"))
            self.assert_kept(UnknownName, "wanted", "y", desk.do, (word, "y", "a", "y"))
            self.assert_kept(UnknownName, "wanted", "x", desk.do, (word, "a", "t", "x"))
        self.assert_kept(UnknownName, "wanted", "a", desk.do, ("take", "a"), ("minus", "a"))
        desk.do(("put", "x", A), ("take", "x"))
        self.assertEqual(desk.past, 1)

    def test_kinds(self):
        desk = made(a=A, r=ROUND, e=I, s=SPLIT.one(), t=TWO, u=formula_of_family(family(4)))
        wrong = [("minus", "t")]
        wrong += [("times", "x", one, other) for one, other in (
            ("a", "r"), ("a", "e"), ("e", "a"), ("e", "s"), ("t", "t"), ("t", "a"), ("a", "t"), ("e", "t"), ("t", "e"))]
        for word in ("beside", "above"):
            wrong += [(word, "x", one, other) for one, other in (
                ("a", "a"), ("a", "t"), ("t", "a"), ("e", "e"), ("t", "u"), ("u", "t"), ("t", "e"))]
        for deed in wrong:
            self.assert_kept(Refused, "reason", ("kinds", 0), desk.do, deed)
            self.assert_kept(Refused, "reason", ("kinds", 2), desk.do, ("minus", "a"), ("turn", "t"), deed)
        for name in "arestu":
            desk.do(("turn", name))
        self.assertIs("x" in desk, False)

    def test_great_formulas(self):
        desk = made(t=BROAD, u=BROAD.exchanged(), v=told_formula(1, 8), w=told_formula(1, 6))
        self.assertEqual([desk["t"].sizes, desk["w"].sizes], [(1, 18, 18), (1, 6, 6)])
        self.assert_kept(Refused, "reason", ("great", 0), desk.do, ("beside", "x", "t", "t"))
        self.assert_kept(Refused, "reason", ("great", 0), desk.do, ("above", "x", "u", "u"))
        self.assert_kept(Refused, "reason", ("kinds", 0), desk.do, ("above", "x", "t", "u"))
        self.assert_kept(Refused, "reason", ("great", 2), desk.do, ("beside", "t", "t", "v"), ("beside", "t", "t", "w"),
                         ("beside", "t", "t", "w"))
        desk.do(("beside", "t", "t", "v"), ("beside", "t", "t", "w"))
        self.assertEqual(desk["t"].sizes, (1, 32, 32))
        one = Formula((table_of(((1,),)),))
        desk.do(("put", "o", one))
        self.assert_kept(Refused, "reason", ("great", 0), desk.do, ("beside", "t", "t", "o"))

    def test_the_first_refusal_is_told(self):
        desk = made(a=A, b=B, t=TWO)
        desk.say(("unit", "a"))
        desk.say(("against", "a", "b"))
        self.assert_kept(UnknownName, "wanted", "x", desk.do, ("take", "x"), ("minus", "t"))
        self.assert_kept(Refused, "reason", ("kinds", 0), desk.do, ("minus", "t"), ("take", "x"))
        self.assert_kept(Refused, "reason", ("kinds", 1), desk.do, ("take", "a"), ("minus", "t"))
        self.assert_kept(Refused, "reason", ("taken", ("unit", "a")), desk.do, ("take", "a"))
        self.assert_kept(Refused, "reason", ("taken", ("against", "a", "b")), desk.do, ("put", "a", FLIP), ("take", "b"))
        self.assert_kept(Refused, "reason", ("broken", ("unit", "a")), desk.do, ("put", "a", FLIP))
        self.assert_kept(Refused, "reason", ("broken", ("against", "a", "b")), desk.do, ("put", "b", A))
        self.assertEqual([desk.past, desk["a"] == A], [3, True])

    def test_sayings_are_asked_behind_the_last_deed_alone(self):
        desk = made(a=A, b=B)
        for saying in (("unit", "a"), ("against", "a", "b"), ("equal", "a", "a")):
            desk.say(saying)
        desk.do(("put", "a", I), ("take", "b"), ("put", "b", J))
        self.assertEqual([desk["a"] == I, desk.past], [True, 5])
        desk.do(("take", "a"), ("take", "b"), ("put", "b", A), ("put", "a", B))
        self.assertEqual([desk["a"] == B, desk["b"] == A, desk.past], [True, True, 6])

    def test_what_changes_nothing_is_no_step(self):
        desk = made(a=A, e=I)
        for deeds in ((), (("put", "a", A),), (("put", "a", SignTable(A.marks)),), (("minus", "a"), ("minus", "a")),
                      (("turn", "e"), ("turn", "e")), (("take", "a"), ("put", "a", A)), (("put", "x", J), ("take", "x"))):
            self.assertIsNone(desk.do(*deeds))
            self.assertEqual(desk.past, 1)
        desk.say(("unit", "a"))
        desk.say(("unit", "a"))
        self.assertEqual([desk.past, desk.sayings], [2, (("unit", "a"),)])

    def test_products_of_any_length(self):
        desk = made(e=Element(FOUR, (1, 2, 3, 4)))
        for _ in range(8):
            desk.do(("times", "e", "e", "e"))
        self.assertEqual(desk["e"].norm, Element(FOUR, (1, 2, 3, 4)).power(256).norm)
        norm = desk["e"].norm
        desk.say(("norm", "e", norm))
        self.assertIs(desk.is_true(("norm", "e", norm)), True)


class Sayings(Case, unittest.TestCase):
    def test_what_is_no_saying(self):
        desk = made(a=A, b=B, e=I, t=TWO)
        wrong = NO_RATIOS + (
            ("unit",), ("unit", "a", "b"), ("equal", "a"), ("equal", "a", "b", "a"), ("against", "a"), ("norm", "e"),
            ("norm", "e", 1), ("norm", "e", "1"), ("norm", "e", None), ("norm", "e", True), ("norm", "e", (Ratio(1),)),
            ("norm", "e", Ratio(1), Ratio(1)), ("sizes", "t"), ("sizes", "t", 2, 2, 2), ("sizes", "t", (2, 2)),
            ("sizes", "t", (2, 2, 2, 2)), ("sizes", "t", [2, 2, 2]), ("sizes", "t", (2, 2, True)),
            ("sizes", "t", (2, 2, None)), ("sizes", "t", (2, 2, Ratio(2))), ("sizes", "t", (2, 2, TOO_GREAT)),
            ("sizes", "t", (2, 2, 10 ** 99)), ("sizes", "t", "222"), ["unit", "a"], ("Unit", "a"), ("", "a"), (None, "a"),
            (["unit"], "a"), ({}, "a"), (A, "a"), ("is", "a", "b"), ("put", "a", A), "unit a", ("norm", Ratio(1), "e"),
        )
        for name in NO_NAMES:
            wrong = wrong + (("unit", name), ("equal", name, "a"), ("equal", "a", name), ("against", "a", name),
                             ("norm", name, Ratio(1)), ("sizes", name, (2, 2, 2)))
        for saying in wrong:
            self.assert_error(InvalidOperation, desk.say, saying)
            self.assertIs(desk.is_true(saying), False)
        self.assertEqual([desk.past, desk.sayings], [1, ()])

    def test_unknown_names(self):
        desk = made(a=A, b=B)
        for saying, name in ((("unit", "x"), "x"), (("equal", "x", "y"), "x"), (("equal", "a", "y"), "y"),
                             (("against", "b", "z"), "z"), (("norm", "x", Ratio(1)), "x"), (("sizes", "q", (1, 2, 3)), "q")):
            self.assert_kept(UnknownName, "wanted", name, desk.say, saying)
            self.assertIs(desk.is_true(saying), False)

    def test_true_and_false_ones(self):
        things = {"a": A, "b": B, "c": A, "r": ROUND, "f": FLIP, "e": I, "g": J, "h": I + FOUR.one(), "s": SPLIT.units()[3],
                  "n": SPLIT.one().scaled(0), "t": TWO, "u": formula_of_family(family(2)), "v": told_formula(2, 3)}
        true = (
            ("equal", "a", "c"), ("equal", "t", "u"), ("equal", "e", "e"), ("unit", "a"), ("unit", "b"), ("unit", "r"),
            ("unit", "e"), ("unit", "s"), ("against", "a", "b"), ("against", "r", "f"), ("against", "e", "g"),
            ("against", "n", "s"), ("against", "n", "n"), ("norm", "h", Ratio(2)), ("norm", "n", Ratio(0)),
            ("norm", "s", Ratio(1)), ("sizes", "t", (2, 2, 2)), ("sizes", "v", (2, 3, 4)),
        )
        false = (
            ("equal", "a", "b"), ("equal", "a", "r"), ("equal", "a", "e"), ("equal", "t", "v"), ("equal", "t", "a"),
            ("equal", "e", "s"), ("unit", "f"), ("unit", "h"), ("unit", "n"), ("unit", "t"), ("against", "a", "c"),
            ("against", "a", "r"), ("against", "a", "e"), ("against", "e", "s"), ("against", "t", "u"),
            ("against", "e", "h"), ("against", "t", "a"), ("against", "t", "e"), ("against", "e", "t"), ("norm", "h", Ratio(1)), ("norm", "a", Ratio(1)),
            ("norm", "t", Ratio(1)), ("sizes", "t", (2, 2, 4)), ("sizes", "a", (4, 4, 4)), ("sizes", "e", (1, 1, 1)),
            ("sizes", "t", (0, -2, 10 ** 59)), ("sizes", "v", (3, 2, 4)),
        )
        desk = made(**things)
        for saying in true:
            self.assertIs(holds(things, saying), True)
            self.assertIs(desk.is_true(saying), True)
            self.assertIsNone(desk.say(saying))
        self.assert_same(desk.sayings, true)
        for saying in false:
            self.assertIs(holds(things, saying), False)
            self.assertIs(desk.is_true(saying), False)
            self.assert_kept(Refused, "reason", ("false",), desk.say, saying)
        self.assert_same([desk.sayings, desk.past], [true, 1 + len(true)])

    def test_thirty_and_thirty_one(self):
        names = [chr(97 + at) for at in range(26)] + ["aa", "bb", "cc", "dd", "ee"]
        desk = made(**{name: A for name in names})
        for name in names[:29]:
            desk.say(("unit", name))
        desk.say(("equal", "a", "b"))
        self.assertEqual(len(desk.sayings), 30)
        self.assert_kept(TooMany, "most", 30, desk.say, ("unit", "ee"))
        self.assert_kept(TooMany, "most", 30, desk.say, ("norm", "a", Ratio(1)))
        self.assert_kept(UnknownName, "wanted", "x" * 8, desk.say, ("unit", "x" * 8))
        self.assert_error(InvalidOperation, desk.say, ("unit",))
        self.assertIsNone(desk.say(("unit", "c")))
        self.assertIsNone(desk.say(("equal", "a", "b")))
        self.assertEqual([desk.past, len(desk.sayings)], [31, 30])
        desk.unsay(("unit", "c"))
        self.assert_kept(Refused, "reason", ("false",), desk.say, ("norm", "a", Ratio(1)))
        desk.say(("unit", "ee"))
        self.assertEqual([desk.sayings[-1], len(desk.sayings)], [("unit", "ee"), 30])
        desk.undo(2)
        self.assertEqual([desk.sayings[2], len(desk.sayings)], [("unit", "c"), 30])

    def test_unsay(self):
        desk = made(a=A, e=I, t=TWO, o=Formula((table_of(((1,),)),)))
        kept = (("unit", "a"), ("norm", "e", Ratio(1)), ("sizes", "t", (2, 2, 2)), ("sizes", "o", (1, 1, 1)))
        for saying in kept:
            desk.say(saying)
        wrong = NO_RATIOS + NO_NAMES + (
            ("unit", "e"), ("unit", "zz"), ["unit", "a"], ("unit",), ("norm", "e", 1), ("norm", "e", True),
            ("sizes", "o", (True, 1, 1)), ("sizes", "o", [1, 1, 1]), ("sizes", "t", (2, 2, Ratio(2))), kept, [kept[0]],
            ("norm", "e", Ratio(2)), ("unit", "a", "a"), ("unit", ["a"]), {"unit": "a"},
        )
        for saying in wrong:
            self.assert_kept(UnknownName, "wanted", saying, desk.unsay, saying)
            self.assert_same(desk.sayings, kept)
        self.assertIsNone(desk.unsay(("norm", "e", Ratio(2, 2))))
        self.assert_same([desk.sayings, desk.past], [kept[:1] + kept[2:], 6])
        self.assert_kept(UnknownName, "wanted", ("norm", "e", Ratio(1)), desk.unsay, ("norm", "e", Ratio(1)))
        desk.say(("norm", "e", Ratio(1)))
        self.assert_same(desk.sayings, kept[:1] + kept[2:] + kept[1:2])
        desk.unsay(("unit", "a"))
        desk.do(("take", "a"))
        self.assertEqual(desk.past, 9)

    def test_what_stays_true(self):
        chance = random.Random(182)
        eight = Doubled((-1, -1, 2))
        for _ in range(20):
            units = list(family(8)[1:])
            one, other = chance.sample(units, 2)
            e, f = chance.sample(eight.units()[1:], 2)
            desk = made(a=one, b=other, e=e.scaled(chance.randrange(1, 5)), f=f, h=Element(FOUR, (1, 2, 3, 4), 5))
            for saying in (("unit", "a"), ("against", "a", "b"), ("against", "e", "f"), ("norm", "h", Ratio(6, 5))):
                desk.say(saying)
            for _ in range(10):
                desk.do((chance.choice(("minus", "turn")), chance.choice("abefh")))
            self.assertEqual(len(desk.sayings), 4)

    def test_what_need_not_stay_true(self):
        one, unit = SPLIT.one(), SPLIT.units()[1]
        desk = made(a=one + unit, b=one - unit, t=told_formula(2, 3))
        desk.say(("against", "a", "b"))
        desk.say(("sizes", "t", (2, 3, 4)))
        self.assert_kept(Refused, "reason", ("broken", ("against", "a", "b")), desk.do, ("turn", "a"))
        self.assert_kept(Refused, "reason", ("broken", ("sizes", "t", (2, 3, 4))), desk.do, ("turn", "t"))
        desk.do(("minus", "a"))
        desk.do(("turn", "a"), ("turn", "a"))


class Past(Case, unittest.TestCase):
    def test_undo(self):
        desk = Desk()
        self.assert_kept(NothingToUndo, "steps", 1, desk.undo)
        desk.do(("put", "a", A))
        desk.say(("unit", "a"))
        desk.do(("minus", "a"))
        desk.unsay(("unit", "a"))
        self.assertEqual(desk.past, 4)
        self.assert_kept(NothingToUndo, "steps", 5, desk.undo, 5)
        self.assert_kept(NothingToUndo, "steps", 10 ** 59, desk.undo, 10 ** 59)
        self.assertIsNone(desk.undo(2))
        self.assert_same([desk.past, desk["a"].marks, desk.sayings], [2, A.marks, (("unit", "a"),)])
        self.assertIsNone(desk.undo(steps=1))
        self.assert_same([desk.past, desk.sayings, len(desk)], [1, (), 1])
        desk.undo()
        self.assert_same([desk.past, len(desk), desk == Desk()], [0, 0, True])
        self.assert_kept(NothingToUndo, "steps", 1, desk.undo)

    def test_wrong_steps(self):
        desk = made(a=A)
        for value in NO_INTEGERS + (0, -1, -5, TOO_GREAT, 10 ** 99):
            self.assert_number(value, desk.undo, value)
        self.assertEqual(desk.past, 1)

    def test_twin(self):
        desk = made(a=A, b=B)
        desk.say(("unit", "a"))
        twin = desk.twin()
        self.assertIs(type(twin), Desk)
        self.assert_same([twin == desk, twin.past, twin.sayings], [True, 2, desk.sayings])
        twin.do(("take", "b"))
        twin.unsay(("unit", "a"))
        self.assert_same([twin == desk, twin.past, desk.past, len(desk), desk.sayings],
                         [False, 4, 2, 2, (("unit", "a"),)])
        desk.undo(2)
        self.assert_same([twin.past, len(twin), len(desk)], [4, 1, 0])
        twin.undo(4)
        self.assert_same([twin == desk, twin.past], [True, 0])
        desk.do(("put", "x", I))
        other = desk.twin().twin()
        other.undo()
        self.assert_same([len(other), len(desk), desk.past], [0, 1, 1])


class Asked(Case, unittest.TestCase):
    def test_in_and_items(self):
        desk = made(a=A, zz=I, abcdefgh=TWO)
        for name, thing in (("a", A), ("zz", I), ("abcdefgh", TWO)):
            self.assert_same([name in desk, name not in desk], [True, False])
            self.assertTrue(desk[name] == thing)
        for value in NO_NAMES + ("b", "z", "aa"):
            self.assert_same([value in desk, value not in desk], [False, True])
            self.assert_kept(UnknownName, "wanted", value, operator.getitem, desk, value)

    def test_len_and_iteration(self):
        desk = made(z=A, b=B, ab=I, a=J, y=TWO)
        self.assert_same([len(desk), list(desk), tuple(desk)], [5, ["a", "ab", "b", "y", "z"], ("a", "ab", "b", "y", "z")])
        desk.do(("put", "ba", A), ("take", "y"))
        self.assert_same(list(desk), ["a", "ab", "b", "ba", "z"])
        desk.undo()
        self.assert_same([list(desk), list(desk.twin()), list(Desk())], [["a", "ab", "b", "y", "z"]] * 2 + [[]])

    def test_equal(self):
        desk, other = made(a=A, b=B), made(b=B, a=A)
        self.assert_same([desk == other, desk != other], [True, False])
        for one in (desk, other):
            one.do(("minus", "a"), ("turn", "a"))
        for saying in (("unit", "a"), ("unit", "b")):
            desk.say(saying)
        self.assert_same([desk == other, desk != other], [False, True])
        for saying in (("unit", "b"), ("unit", "a")):
            other.say(saying)
        self.assert_same(desk == other, False)
        other.unsay(("unit", "b"))
        other.say(("unit", "b"))
        self.assert_same([desk == other, desk.past == other.past], [True, False])
        other.do(("put", "a", B.turned()), ("put", "b", A))
        self.assert_same(desk == other, False)
        for value in NO_RATIOS + (desk.things, desk.sayings, "desk: 2 things, 2 sayings", Desk()):
            self.assert_same([desk == value, desk != value], [False, True])

    def test_str(self):
        desk = made(a=A)
        self.assert_same([str(Desk()), str(desk)], ["desk: 0 things, 0 sayings", "desk: 1 things, 0 sayings"])
        desk.say(("unit", "a"))
        self.assert_same(str(desk), "desk: 1 things, 1 sayings")

    def test_no_state_is_shared(self):
        desk = made(a=A, b=B)
        desk.say(("unit", "a"))
        things = desk.things
        self.assertEqual([type(things), type(desk.sayings)], [dict, tuple])
        things["c"] = A
        del things["a"]
        things.clear()
        self.assert_same([len(desk), desk["a"].marks, len(desk.things)], [2, A.marks, 2])
        for name in ("things", "sayings", "past"):
            self.assertRaises(AttributeError, setattr, desk, name, {})
        deeds = [("put", "c", I)]
        desk.do(*deeds)
        deeds.clear()
        self.assertEqual(len(desk), 3)
        # What is iterated over is the desk as it was.
        for name in desk:
            desk.do(("put", name + "x", J))
        self.assertEqual(len(desk), 6)

    def test_all_is_defined_in_the_class_itself(self):
        names = (
            "things", "sayings", "past", "do", "say", "unsay", "is_true", "undo", "twin", "__contains__", "__getitem__",
            "__len__", "__iter__", "__eq__", "__str__", "__init__",
        )
        for name in names:
            self.assertIn(name, vars(Desk))
        self.assertEqual(Desk.__module__, module.__name__)
        self.assertRaises(TypeError, Desk, 1)


if __name__ == "__main__":
    unittest.main()
