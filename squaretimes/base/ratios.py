"""Ratios: fractions in lowest terms."""

from math import gcd, lcm

from squaretimes.base.integers import is_integer, is_passed_integer, read_integer, sign_of
from squaretimes.errors import InvalidNumber, InvalidOperation, InvalidRatio, ParseError


def _lowest_terms(top, bottom):
    """The top and the bottom of the same fraction in lowest terms, the bottom above 0."""
    shared = gcd(top, bottom)
    if bottom < 0:
        shared = -shared
    return top // shared, bottom // shared


class Ratio:
    """A fraction in lowest terms with a bottom above 0. It never changes."""

    def __init__(self, top, bottom=1):
        if not is_passed_integer(top):
            raise InvalidNumber(top)
        if not is_passed_integer(bottom) or bottom == 0:
            raise InvalidNumber(bottom)
        terms = _lowest_terms(top, bottom)
        self._top = terms[0]
        self._bottom = terms[1]

    @staticmethod
    def read(text):
        """The ratio with this `str`."""
        ratio = read_ratio(text) if isinstance(text, str) else None
        if ratio is None:
            raise ParseError(0)
        return ratio

    @property
    def top(self):
        """The top in lowest terms."""
        return self._top

    @property
    def bottom(self):
        """The bottom in lowest terms, above 0."""
        return self._bottom

    @property
    def sign(self):
        """-1, 0 or 1."""
        return sign_of(self._top)

    def __add__(self, other):
        if not is_ratio(other):
            return NotImplemented
        top, bottom = parts_of(other)
        return ratio_of(self._top * bottom + top * self._bottom, self._bottom * bottom)

    def __sub__(self, other):
        if not is_ratio(other):
            return NotImplemented
        top, bottom = parts_of(other)
        return ratio_of(self._top * bottom - top * self._bottom, self._bottom * bottom)

    def __mul__(self, other):
        if not is_ratio(other):
            return NotImplemented
        top, bottom = parts_of(other)
        return ratio_of(self._top * top, self._bottom * bottom)

    def __neg__(self):
        return ratio_of(-self._top, self._bottom)

    def over(self, other):
        """The quotient by a ratio or an integer."""
        check_ratio(other)
        top, bottom = parts_of(other)
        if top == 0:
            raise InvalidOperation("no ratio is divided by 0")
        return ratio_of(self._top * bottom, self._bottom * top)

    def compared(self, other):
        """-1, 0 or 1, as the ratio is less than, equal to or greater than the other one."""
        check_ratio(other)
        top, bottom = parts_of(other)
        return sign_of(self._top * bottom - top * self._bottom)

    def __eq__(self, other):
        if isinstance(other, Ratio):
            return self._top == other._top and self._bottom == other._bottom
        return is_integer(other) and self._bottom == 1 and self._top == other

    def __bool__(self):
        return bool(self._top)

    def __str__(self):
        if self._bottom == 1:
            return str(self._top)
        return f"{self._top}/{self._bottom}"


def ratio_of(top, bottom):
    """The ratio of two integers of any length, the bottom other than 0."""
    # The class refuses integers that are too long to be passed; inside they are not.
    made = Ratio(0)
    terms = _lowest_terms(top, bottom)
    made._top = terms[0]
    made._bottom = terms[1]
    return made


def read_ratio(text):
    """The ratio with this `str`, its integers of at most sixty digits, or None."""
    words = text.split("/", 1)
    top = read_integer(words[0])
    bottom = read_integer(words[1]) if len(words) == 2 else 1
    if top is None or bottom is None or bottom == 0:
        return None
    ratio = Ratio(top, bottom)
    # A text with other than the lowest terms tells a ratio with another str.
    return ratio if str(ratio) == text else None


def parts_of(ratio):
    """The top and the bottom of a ratio or an integer."""
    if isinstance(ratio, Ratio):
        return ratio._top, ratio._bottom
    return ratio, 1


def as_ratio(value):
    """The ratio of the same worth as a ratio or an integer."""
    return value if isinstance(value, Ratio) else ratio_of(value, 1)


def over_one_bottom(values):
    """The tops of ratios and integers that are brought to one bottom, and this bottom."""
    parts = [parts_of(value) for value in values]
    common = 1
    for _, bottom in parts:
        common = lcm(common, bottom)
    return [top * (common // bottom) for top, bottom in parts], common


def is_ratio(value):
    """Whether the value is a ratio, or an integer that can be passed in its place."""
    return isinstance(value, Ratio) or is_passed_integer(value)


def check_ratio(value):
    """Refuses every value that is not passed as a ratio."""
    if not is_ratio(value):
        raise InvalidRatio("neither a ratio nor an integer")


def are_ratios(value, least, most):
    """Whether the value is a tuple of ratios and integers, from the least to the most of them."""
    if not (isinstance(value, tuple) and least <= len(value) <= most):
        return False
    return all([is_ratio(member) for member in value])


def check_ratios(value, least, most):
    """Refuses every value that is not passed as so many ratios and integers."""
    if not are_ratios(value, least, most):
        raise InvalidRatio("no tuple of so many ratios and integers")
