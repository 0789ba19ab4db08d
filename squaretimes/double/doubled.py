"""Doubled algebras and their elements."""

from math import gcd, isqrt

from squaretimes.base.integers import check_number, is_integer, is_passed_integer
from squaretimes.base.ratios import check_ratio, over_one_bottom, parts_of, ratio_of
from squaretimes.double.products import mate_of, norm_of, product_of, unit_entries, unit_norms
from squaretimes.errors import InvalidAlgebra, InvalidElement, InvalidNumber, InvalidOperation, Refused, TooMany
from squaretimes.square.weighted import light_vector

MAX_SQUARE = 1000000
MAX_DOUBLINGS = 4
MAX_POWER = 1000
MAX_NOUGHT = 30
# If squares of a size of at most 30 have a nought pair of two squares, Holzer's bounds leave one within this box.
_NOUGHT_BOX = 25


def are_squares(value):
    """Whether the value is a tuple of at most four integers other than 0, none of them too great."""
    if not (isinstance(value, tuple) and len(value) <= MAX_DOUBLINGS):
        return False
    return all([is_integer(square) and square != 0 and abs(square) <= MAX_SQUARE for square in value])


class Doubled:
    """The doubled algebra of some squares. It never changes."""

    def __init__(self, squares):
        if not are_squares(squares):
            raise InvalidAlgebra("no tuple of at most four integers other than 0")
        self._squares = squares

    @property
    def squares(self):
        """The squares, a tuple."""
        return self._squares

    @property
    def dimension(self):
        """The number of the entries of each element."""
        return 1 << len(self._squares)

    @property
    def is_definite(self):
        """Whether all squares are below 0."""
        return all([square < 0 for square in self._squares])

    def one(self):
        """The one."""
        return Element(self, unit_entries(self.dimension, 0))

    def units(self):
        """All units, the one first."""
        size = self.dimension
        return tuple([Element(self, unit_entries(size, at)) for at in range(size)])

    def __eq__(self, other):
        return isinstance(other, Doubled) and self._squares == other._squares

    def __str__(self):
        if not self._squares:
            return "ratios"
        words = " ".join([str(square) for square in self._squares])
        return f"doubled by {words}"


def check_algebra(value):
    """Refuses every value that is no doubled algebra."""
    if not isinstance(value, Doubled):
        raise InvalidAlgebra("no doubled algebra")


def is_element_of(algebra, value):
    """Whether the value is an element of an algebra."""
    return isinstance(value, Element) and value.algebra == algebra


def _check_element_of(algebra, value):
    """Refuses every value that is no element of an algebra."""
    if not is_element_of(algebra, value):
        raise InvalidElement("no element of the algebra")


class Element:
    """An element of a doubled algebra. It never changes."""

    def __init__(self, algebra, entries, bottom=1):
        check_algebra(algebra)
        if not (isinstance(entries, tuple) and len(entries) == algebra.dimension):
            raise InvalidElement("not as many entries as the algebra has dimensions")
        if not all([is_passed_integer(entry) for entry in entries]):
            raise InvalidElement("entries that are no integers")
        if not is_passed_integer(bottom) or bottom == 0:
            raise InvalidNumber(bottom)
        terms = _lowest_terms(entries, bottom)
        self._algebra = algebra
        self._entries = terms[0]
        self._bottom = terms[1]

    @property
    def algebra(self):
        """The algebra."""
        return self._algebra

    @property
    def entries(self):
        """The entries times the bottom, in lowest terms, a tuple of integers."""
        return self._entries

    @property
    def bottom(self):
        """The bottom in lowest terms, above 0."""
        return self._bottom

    @property
    def trace(self):
        """The sum of the element and its mate, a ratio."""
        return ratio_of(2 * self._entries[0], self._bottom)

    @property
    def norm(self):
        """The product of the element and its mate, a ratio."""
        return ratio_of(norm_of(self._algebra.squares, self._entries), self._bottom * self._bottom)

    @property
    def is_ratio(self):
        """Whether all entries behind the first one are 0."""
        return not any(self._entries[1:])

    def mate(self):
        """The mate."""
        return element_of(self._algebra, mate_of(self._entries), self._bottom)

    def inverse(self):
        """The element whose product with this one is the one."""
        norm = norm_of(self._algebra.squares, self._entries)
        if norm == 0:
            raise Refused(("norm",))
        return element_of(self._algebra, [entry * self._bottom for entry in mate_of(self._entries)], norm)

    def power(self, many):
        """The power by an integer."""
        check_number(many, -MAX_POWER, MAX_POWER)
        if many < 0:
            return self.inverse().power(-many)
        first, factor = _power_terms(2 * self._entries[0], norm_of(self._algebra.squares, self._entries), many)
        entries = [factor * entry for entry in self._entries]
        entries[0] = entries[0] + first
        return element_of(self._algebra, entries, _whole_power(self._bottom, many))

    def scaled(self, ratio):
        """The element with all entries multiplied by a ratio."""
        check_ratio(ratio)
        top, bottom = parts_of(ratio)
        return element_of(self._algebra, [entry * top for entry in self._entries], self._bottom * bottom)

    def __add__(self, other):
        if not isinstance(other, Element):
            return NotImplemented
        return _sum(self, other, 1)

    def __sub__(self, other):
        if not isinstance(other, Element):
            return NotImplemented
        return _sum(self, other, -1)

    def __mul__(self, other):
        if not isinstance(other, Element):
            return NotImplemented
        _check_alike(self, other)
        entries = product_of(self._algebra.squares, self._entries, other._entries)
        return element_of(self._algebra, entries, self._bottom * other._bottom)

    def __neg__(self):
        return element_of(self._algebra, [-entry for entry in self._entries], self._bottom)

    def __eq__(self, other):
        if not isinstance(other, Element) or self._bottom != other._bottom:
            return False
        return self._entries == other._entries and self._algebra == other._algebra

    def __bool__(self):
        return any(self._entries)

    def __str__(self):
        terms = "".join([_term(at, entry) for at, entry in enumerate(self._entries) if entry])
        text = terms.removeprefix("+") if terms else "0"
        if self._bottom == 1:
            return str(text)
        return f"({text})/{self._bottom}"


def _lowest_terms(entries, bottom):
    """The entries, a tuple, and the bottom of the same element in lowest terms, the bottom above 0."""
    shared = bottom
    for entry in entries:
        shared = gcd(shared, entry)
    if bottom < 0:
        shared = -abs(shared)
    return tuple([entry // shared for entry in entries]), bottom // shared


def element_of(algebra, entries, bottom):
    """The element with entries of any length, divided by a bottom other than 0."""
    # The class refuses integers that are too long to be passed; inside they are not.
    made = Element(algebra, unit_entries(algebra.dimension, 0))
    terms = _lowest_terms(entries, bottom)
    made._entries = terms[0]
    made._bottom = terms[1]
    return made


def element_in(algebra, ratios):
    """The element whose entries are some ratios."""
    tops, bottom = over_one_bottom(ratios)
    return element_of(algebra, tops, bottom)


def _check_alike(one, other):
    """Refuses two elements of unlike algebras."""
    if one.algebra != other.algebra:
        raise InvalidOperation("the algebras are unlike")


def _sum(one, other, sign):
    """The sum of one element and the other one, multiplied by a sign."""
    _check_alike(one, other)
    below, under = one.bottom, other.bottom * sign
    entries = [entry * under + more * below for entry, more in zip(one.entries, other.entries)]
    return element_of(one.algebra, entries, below * under)


def _term(at, entry):
    """The term of an entry other than 0, its sign ahead."""
    sign = "-" if entry < 0 else "+"
    size = abs(entry)
    if at == 0:
        return f"{sign}{size}"
    number = "" if size == 1 else str(size)
    return f"{sign}{number}e{at}"


def _power_terms(trace, norm, many):
    """The integers b and a for which the power is b and a times the element, which has this trace and this norm."""
    # The square of an element is its trace times itself, less its norm: so is each power a sum of this kind.
    first, factor = 1, 0
    for at in range(many.bit_length() - 1, -1, -1):
        first, factor = first * first - factor * factor * norm, factor * (factor * trace + 2 * first)
        if (many >> at) & 1:
            first, factor = -factor * norm, factor * trace + first
    return first, factor


def _whole_power(number, many):
    """The power of an integer by an integer of at least 0."""
    total = 1
    for at in range(many.bit_length() - 1, -1, -1):
        total = total * total
        if (many >> at) & 1:
            total = total * number
    return total


def associator(one, other, third):
    """The difference of (one * other) * third and one * (other * third)."""
    if not isinstance(one, Element):
        raise InvalidElement("no element")
    _check_element_of(one.algebra, other)
    _check_element_of(one.algebra, third)
    return (one * other) * third - one * (other * third)


def nought_pair(algebra):
    """A pair of elements other than 0 whose product is 0, or None."""
    check_algebra(algebra)
    squares = algebra.squares
    if not all([abs(square) <= MAX_NOUGHT for square in squares]):
        raise TooMany(MAX_NOUGHT)
    if len(squares) == 4:
        return _nought_pair_of_sixteen(algebra)
    entries = _nought_entries(squares)
    if entries is None:
        return None
    found = Element(algebra, entries)
    return found, found.mate()


def _nought_pair_of_sixteen(algebra):
    """A nought pair of the algebra whose four squares are -1."""
    if algebra.squares != (-1, -1, -1, -1):
        raise InvalidOperation("four squares other than -1")
    units = algebra.units()
    return units[1] + units[10], units[4] - units[15]


def _nought_entries(squares):
    """Entries, not all 0, of an element with the norm 0 for at most three squares, or None."""
    if len(squares) == 3:
        return None if max(squares) < 0 else _nought_of_three(squares)
    bounds = [_NOUGHT_BOX] * len(squares) + [0, 0]
    for first in range(bounds[0] + 1):
        for second in range(bounds[1] + 1):
            total = sum([square * root * root for square, root in zip(squares, (first, second))])
            last = isqrt(max(total, 0))
            if (first or second) and last * last == total:
                return (last, first, second, 0)[:1 << len(squares)]
    return None


def _nought_of_three(squares):
    """Entries of an element with the norm 0 for three squares that are not all below 0."""
    vector, (root,), _ = light_vector(unit_norms(squares)[1:], -1, 1, 3)
    tops, bottom = over_one_bottom(vector)
    return tuple([root * bottom] + tops)


def is_nought_pair(algebra, value):
    """Whether the value is a pair of elements of the algebra other than 0 whose product is 0."""
    check_algebra(algebra)
    if not (isinstance(value, tuple) and len(value) == 2):
        return False
    if not all([is_element_of(algebra, member) and bool(member) for member in value]):
        return False
    return not value[0] * value[1]
