"""Things that a desk keeps: sign tables, elements and formulas."""

from squaretimes.double.doubled import Element
from squaretimes.form.formulas import Formula
from squaretimes.form.signs import SignTable


def is_thing(value):
    """Whether the value is a thing that a desk can keep."""
    return isinstance(value, SignTable) or isinstance(value, Element) or isinstance(value, Formula)


def can_be_multiplied(one, other):
    """Whether two things are sign tables of one size or elements of one algebra."""
    if isinstance(one, SignTable):
        return isinstance(other, SignTable) and one.size == other.size
    return isinstance(one, Element) and isinstance(other, Element) and one.algebra == other.algebra
