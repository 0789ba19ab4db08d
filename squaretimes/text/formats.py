"""Texts of elements and formulas."""

from squaretimes.base.integers import read_integer
from squaretimes.base.ratios import read_ratio
from squaretimes.base.tables import is_grid
from squaretimes.double.doubled import Doubled, Element, are_squares
from squaretimes.errors import InvalidElement, ParseError
from squaretimes.form.formulas import MAX_SIDE, Formula, check_formula, is_formula


def _row_text(row):
    """The texts of integers or ratios with single blanks between them."""
    return " ".join([str(entry) for entry in row])


def write_element(element):
    """The text of an element."""
    if not isinstance(element, Element):
        raise InvalidElement("no element")
    text = f"[{_row_text(element.algebra.squares)}] {_row_text(element.entries)}"
    return text if element.bottom == 1 else f"{text}/{element.bottom}"


def write_formula(formula):
    """The text of a formula."""
    check_formula(formula)
    return "; ".join([", ".join([_row_text(row) for row in table]) for table in formula.tables])


def _check_text(value):
    """Refuses every value that is no string."""
    if not isinstance(value, str):
        raise ParseError(None)


def _integers(text):
    """The tuple of the integers that stand in a text with single blanks between them, or None."""
    found = tuple([read_integer(word) for word in text.split(" ")])
    return None if None in found else found


def read_element(text):
    """The element with this text."""
    _check_text(text)
    ahead, mark, behind = text.partition("] ")
    squares = () if ahead == "[" else _integers(ahead[1:])
    if not (text.startswith("[") and mark and are_squares(squares)):
        raise ParseError(0)
    row, slash, below = behind.partition("/")
    entries = _integers(row)
    bottom = read_integer(below) if slash else 1
    if entries is None or bottom is None or (slash and bottom < 2):
        raise ParseError(1)
    algebra = Doubled(squares)
    element = Element(algebra, entries, bottom) if len(entries) == algebra.dimension else None
    # Entries and a bottom that are not in lowest terms tell an element with another text.
    if element is None or write_element(element) != text:
        raise ParseError(2)
    return element


def _table_of(text):
    """The table of ratios that has a text, or None."""
    table = tuple([tuple([read_ratio(word) for word in row.split(" ")]) for row in text.split(", ")])
    if not is_grid(table, MAX_SIDE) or any([None in row for row in table]):
        return None
    return table


def read_formula(text):
    """The formula with this text."""
    _check_text(text)
    tables = []
    for at, part in enumerate(text.split("; ")):
        table = _table_of(part)
        if table is None:
            raise ParseError(at)
        tables.append(table)
    if not is_formula(tuple(tables)):
        raise ParseError(len(tables))
    return Formula(tuple(tables))
