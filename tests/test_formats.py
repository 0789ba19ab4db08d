"""[15.1] and [15.2]: texts of elements and formulas."""

import random
import re
import unittest

from squaretimes.base.ratios import Ratio
from squaretimes.base.tables import table_of
from squaretimes.colour.bars import told_formula
from squaretimes.double.doubled import Doubled, Element
from squaretimes.errors import InvalidElement, InvalidFormula, ParseError
from squaretimes.form.formulas import Formula, is_formula
from squaretimes.form.radon import family, formula_of_family
from squaretimes.form.signs import SignTable
from squaretimes.text import formats
from squaretimes.text.formats import read_element, read_formula, write_element, write_formula
from tests.helper import GREAT, NO_RATIOS, TOO_GREAT, Case, error_of, exact_turn

FOUR = Doubled((-1, -1))
HALF = Element(FOUR, (1, 0, 2, 0), 3)
TWO = Formula((table_of(((1, 0), (0, 1))), table_of(((0, 1), (-1, 0)))))
SIGNS = " -/0123,;[]9"
NO_TEXTS = (
    None, True, False, 0, 1, (), ("[] 5",), ["[] 5"], {}, {"a": "1"}, b"[] 5", b"1", HALF, TWO, Ratio(1), 10 ** 70,
)


def plain_integer(word):
    """The integer with this text, or None."""
    if re.fullmatch("0|-?[1-9][0-9]{0,59}", word) is None:
        return None
    return int(word)


def plain_integers(text):
    found = [plain_integer(word) for word in text.split(" ")]
    return None if None in found else found


def plain_element(text):
    """("spot", index) or ("element", squares, entries, bottom), by the words of [15.1]."""
    if not text.startswith("[") or "] " not in text:
        return "spot", 0
    end = text.index("] ")
    squares = plain_integers(text[1:end]) if text[1:end] else []
    if squares is None or len(squares) > 4 or any(not 1 <= abs(square) <= 10 ** 6 for square in squares):
        return "spot", 0
    row, slash, below = text[end + 2:].partition("/")
    entries, bottom = plain_integers(row), plain_integer(below) if slash else 1
    if entries is None or bottom is None or (slash and bottom < 2):
        return "spot", 1
    shared = bottom
    for entry in entries:
        while entry:
            shared, entry = entry, shared % entry
    if len(entries) != 2 ** len(squares) or abs(shared) != 1:
        return "spot", 2
    return "element", tuple(squares), tuple(entries), bottom


def plain_ratio(word):
    """Whether it is the text of a ratio with integers of at most sixty digits."""
    top, slash, below = word.partition("/")
    one, other = plain_integer(top), plain_integer(below) if slash else 1
    if one is None or other is None or other < 1 or (slash and other == 1):
        return False
    while one:
        one, other = other % one, one
    return abs(other) == 1


def plain_formula(text):
    """("spot", index) or ("formula",), by the words of [15.1]."""
    parts = text.split("; ")
    tables = []
    for at, part in enumerate(parts):
        rows = [row.split(" ") for row in part.split(", ")]
        if len(rows) > 32 or any(len(row) != len(rows[0]) or len(row) > 32 for row in rows):
            return "spot", at
        if not all(plain_ratio(word) for row in rows for word in row):
            return "spot", at
        tables.append(tuple([tuple([Ratio.read(word) for word in row]) for row in rows]))
    return ("formula",) if is_formula(tuple(tables)) else ("spot", len(parts))


def bent(chance, text, signs):
    """The text with one or two signs put in, left out or exchanged."""
    for _ in range(chance.randrange(1, 3)):
        at = chance.randrange(len(text) + 1)
        step = chance.randrange(3)
        text = text[:at] + (chance.choice(signs) if step != 1 else "") + text[at + (step != 0):]
    return text


def some_elements():
    chance = random.Random(161)
    for many in range(5):
        for most in (2, 100, GREAT):
            for _ in range(6):
                squares = tuple([chance.choice((-1, 1)) * chance.randrange(1, 10 ** chance.randrange(1, 7) + 1)
                                 for _ in range(many)])
                entries = tuple([chance.choice((0, chance.randrange(-most, most + 1))) for _ in range(2 ** many)])
                yield Element(Doubled(squares), entries, chance.choice((1, 1, 2, -3, 60, GREAT)))


def some_formulas():
    chance = random.Random(162)
    found = [TWO, Formula((table_of(((1,),)),)), told_formula(3, 5), told_formula(2, 9).exchanged()]
    found.extend([formula_of_family(family(size)) for size in (2, 4, 6, 8, 32)])
    found.extend([Formula((exact_turn(chance, size),)) for size in (1, 2, 3, 7)])
    for size in (2, 4):
        turn = exact_turn(chance, size)
        found.append(Formula(tuple([table_of(tuple([tuple([sum([a * b for a, b in zip(row, column)], start=Ratio(0))
                     for column in zip(*turn)]) for row in table])) for table in formula_of_family(family(size)).tables])))
    return found


class Elements(Case, unittest.TestCase):
    def test_texts(self):
        wanted = {
            "[-1 -1] 1 0 2 0/3": HALF, "[] 5": Element(Doubled(()), (5,)), "[] 0": Element(Doubled(()), (0,)),
            "[2] -1 10": Element(Doubled((2,)), (-1, 10)), "[] -5/2": Element(Doubled(()), (5,), -2),
            "[1000000 -1000000] 0 0 0 0": Element(Doubled((10 ** 6, -10 ** 6)), (0, 0, 0, 0), 7),
            "[-1 -1 -1] 1 1 1 1 0 0 0 0/2": Element(Doubled((-1, -1, -1)), (1, 1, 1, 1, 0, 0, 0, 0), 2),
        }
        for text, element in wanted.items():
            self.assert_same(write_element(element), text)
            self.assertTrue(read_element(text) == element)

    def test_written_and_read(self):
        for element in some_elements():
            text = write_element(element)
            self.assertIs(type(text), str)
            ahead = " ".join(map(str, element.algebra.squares))
            below = "" if element.bottom == 1 else "/" + str(element.bottom)
            self.assertEqual(text, "[" + ahead + "] " + " ".join(map(str, element.entries)) + below)
            read = read_element(text)
            self.assert_same([type(read), read.entries, read.bottom], [Element, element.entries, element.bottom])
            self.assertTrue(read == element and read.algebra == element.algebra)

    def test_bent_texts(self):
        chance = random.Random(163)
        spots = {}
        for element in some_elements():
            for _ in range(80):
                text = bent(chance, write_element(element), SIGNS)
                told = plain_element(text)
                spots[told[1] if told[0] == "spot" else None] = True
                if told[0] == "spot":
                    self.assert_kept(ParseError, "spot", told[1], read_element, text)
                else:
                    read = read_element(text)
                    self.assert_same((read.algebra.squares, read.entries, read.bottom), told[1:])
                    self.assert_same(write_element(read), text)
        self.assertEqual(set(spots), {None, 0, 1, 2})

    def test_spots(self):
        wanted = {
            0: ("", " ", "5", "[", "[]", "[]5", "] 5", "x[] 5", " [] 5", "[-1 -1]", "[-1 -1]1 0 0 0", "[0] 1 0", "[ ] 5",
                "[-1  -1] 1 0 0 0", "[-1 ] 1 0", "[ -1] 1 0", "[-01] 1 0", "[+1] 1 0", "[-0] 1 0", "[1000001] 1 0",
                "[1 1 1 1 1] " + "0 " * 31 + "0", "[a] 1 0", "[1/2] 1 0", "[[]] 5", "[-1,-1] 1 0 0 0", "(-1) 1 0",
                "[-1\t-1] 1 0 0 0", "[\n] 5", "[" + "1" * 61 + "] 1 0", "[1]x",
                "[1 -1000001] 1 0 0 0", "[1" + "0" * 4000 + "] 1"),
            1: ("[] ", "[]  5", "[] 5 ", "[] 5/", "[] 5/1", "[] 5/0", "[] 5/-2", "[] 5/02", "[] 5/2/3", "[] 5 /2",
                "[] 5/ 2", "[] /2", "[] -0", "[] 05", "[] +5", "[] a", "[] 1,2", "[] 1.0", "[-1] 1  0", "[-1] 1\t0",
                "[] 5\n", "[] " + "1" * 61, "[] 5/" + "1" * 61, "[1] ] 5", "[] --5", "[] 5/2 ", "[1] 1 0/2/2",
                "[] 5/+2", "[] 1" + "0" * 3990),
            2: ("[] 1 2", "[-1] 1", "[-1] 1 2 3", "[-1 -1] 2 0 4 0/6", "[] 4/2", "[] 0/2", "[-1] 0 0/7", "[-1] 1 2 3 4/3",
                "[-1] 3 6/3", "[] -6/4", "[1 1 1 1] 5"),
        }
        for spot, texts in wanted.items():
            for text in texts:
                self.assertEqual(plain_element(text), ("spot", spot), text)
                self.assert_kept(ParseError, "spot", spot, read_element, text)

    def test_sixty_and_sixty_one_digits(self):
        for text in (f"[] {GREAT}", f"[] -{GREAT}", f"[] 1/{GREAT}", f"[-1] {GREAT} -{GREAT}/2"):
            self.assert_same(write_element(read_element(text)), text)
        for text in (f"[] {TOO_GREAT}", f"[] -{TOO_GREAT}", f"[] 1/{TOO_GREAT + 1}", f"[-1] 1 {TOO_GREAT + 1}"):
            self.assert_kept(ParseError, "spot", 1, read_element, text)
        long = Element(Doubled((-1,)), (GREAT, 1)).power(3)
        text = write_element(long)
        self.assertEqual(text, f"[-1] {GREAT ** 3 - 3 * GREAT} {3 * GREAT ** 2 - 1}")
        self.assert_kept(ParseError, "spot", 1, read_element, text)

    def test_no_strings_and_no_elements(self):
        for value in NO_TEXTS:
            self.assert_kept(ParseError, "spot", None, read_element, value)
        for value in NO_RATIOS + (TWO, FOUR, (HALF,), HALF.entries):
            self.assert_error(InvalidElement, write_element, value)


class Formulas(Case, unittest.TestCase):
    def test_texts(self):
        self.assert_same(write_formula(TWO), "1 0, 0 1; 0 1, -1 0")
        self.assert_same(write_formula(Formula((table_of(((Ratio(3, 5), Ratio(-4, 5)),)),))), "3/5 -4/5")
        self.assertTrue(read_formula("1 0, 0 1; 0 1, -1 0") == TWO)
        self.assert_same(read_formula("-1").sizes, (1, 1, 1))

    def test_written_and_read(self):
        for formula in some_formulas():
            text = write_formula(formula)
            wanted = [[[str(entry) for entry in row] for row in table] for table in formula.tables]
            self.assert_same(text, "; ".join([", ".join([" ".join(row) for row in table]) for table in wanted]))
            read = read_formula(text)
            self.assertIs(type(read), Formula)
            self.assertTrue(read == formula)

    def test_bent_texts(self):
        chance = random.Random(164)
        spots = {}
        for formula in some_formulas()[:8] + some_formulas()[9:]:
            text = write_formula(formula)
            for _ in range(60):
                one = bent(chance, text, SIGNS)
                told = plain_formula(one)
                spots[told] = True
                if told[0] == "spot":
                    self.assert_kept(ParseError, "spot", told[1], read_formula, one)
                else:
                    self.assert_same(write_formula(read_formula(one)), one)
        self.assertIn(("formula",), spots)
        self.assertGreater(len(spots), 8)

    def test_spots(self):
        wanted = {
            0: ("", " ", "a", "1 ", " 1", "1  0", "1,0", "1 0,0 1", "1 0, 0", "1, ", "01", "+1", "-0", "1/1", "2/2", "2/4",
                "1/0", "1/-2", "0/2", "1;0", "1\n", "1\t0", "[1]", " ".join(["0"] * 33), ", ".join(["0"] * 33), "1.0",
                "1" * 61, "1/" + "1" * 61, "1" + "0" * 3999, "1;", "1 0;x", "; 1"),
            1: ("1; ", "1; 01", "1 0, 0 1; 0 1, -1", "1 0, 0 1; 0 1, 01 0", "2", "1; ; 1", "1 1", "0", "1; a; b",
                "1; " + " ".join(["0"] * 33), "1, 1", "5/3"),
            2: ("1; 1", "1; 0", "1 0, 0 1; 0 1, 1 0", "1 0, 0 1; 1", "1; 1 0", "1; 1; ", "1 0; 0 1, 1 0"),
            33: ("; ".join(["1"] * 33), "; ".join(["1 0"] * 33)),
        }
        for spot, texts in wanted.items():
            for text in texts:
                self.assertEqual(plain_formula(text), ("spot", spot), text)
                self.assert_kept(ParseError, "spot", spot, read_formula, text)

    def test_sixty_and_sixty_one_digits(self):
        # The squares of 2 n and n n - 1 add up to that of n n + 1.
        root = 10 ** 29
        top, other, bottom = root * root - 1, 2 * root, root * root + 1
        formula = Formula((table_of(((Ratio(top, bottom), Ratio(other, bottom)),)),))
        self.assertTrue(read_formula(write_formula(formula)) == formula)
        long = Ratio(top, bottom) * Ratio(top, bottom) - Ratio(other, bottom) * Ratio(other, bottom)
        more = Ratio(top, bottom) * Ratio(other, bottom) * 2
        great = Formula((((long, more),),))
        self.assertGreater(long.bottom, TOO_GREAT)
        self.assert_kept(ParseError, "spot", 0, read_formula, write_formula(great))
        self.assert_kept(ParseError, "spot", 1, read_formula, str(GREAT))
        self.assert_kept(ParseError, "spot", 0, read_formula, str(TOO_GREAT))

    def test_no_strings_and_no_formulas(self):
        for value in NO_TEXTS:
            self.assert_kept(ParseError, "spot", None, read_formula, value)
        for value in NO_RATIOS + (HALF, (TWO,), TWO.tables, SignTable((2, -1))):
            self.assert_error(InvalidFormula, write_formula, value)

    def test_all_is_defined_in_its_module(self):
        for one in (read_element, read_formula, write_element, write_formula):
            self.assertEqual(one.__module__, formats.__name__)
        self.assertIsNone(error_of(read_formula, "1"))


if __name__ == "__main__":
    unittest.main()
