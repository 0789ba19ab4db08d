"""Whole eights: eights with integers and halves that are closed under products."""

from math import gcd

from squaretimes.base.integers import check_number, is_passed_integer
from squaretimes.base.ratios import ratio_of
from squaretimes.double.doubled import Doubled, element_of, is_element_of
from squaretimes.errors import InvalidElement, InvalidNumber, InvalidOperation, TooMany
from squaretimes.square.sums import square_roots
from squaretimes.whole.codes import basis_rows, coordinates, is_row_of, nearest_row, rows_of_norm, twice
from squaretimes.whole.papers import paper_of

MAX_LISTED = 2
MAX_COUNTED = 10 ** 6
_MOST_ASKED = 100


def _eight():
    """The algebra of all elements here."""
    return Doubled((-1, -1, -1))


def _is_whole(at, value):
    """Whether the value is an eight whose odd indices are a word of an index; those of 0 are the words of Kirmse."""
    if not is_element_of(_eight(), value):
        return False
    row = twice(value.entries, value.bottom)
    return row is not None and is_row_of(at, row)


def _halves(row):
    """The eight that is told by twice its entries."""
    return element_of(_eight(), row, 2)


class WholeOrder:
    """The order of an index. It never changes."""

    def __init__(self, at):
        check_number(at, 1, 7)
        self._at = at
        self._basis = tuple([_halves(row) for row in basis_rows(at)])

    @property
    def at(self):
        """The index."""
        return self._at

    def basis(self):
        """Eight elements such that the order consists of the sums of their integer multiples."""
        return self._basis

    def units(self):
        """The elements of the norm 1, ascending by twice their entries."""
        return self.of_norm(1)

    def of_norm(self, norm):
        """The elements of the norm 1 or 2, ascending by twice their entries."""
        check_number(norm, 1, MAX_LISTED)
        return tuple([_halves(row) for row in rows_of_norm(self._at, norm)])

    def count_of_norm(self, norm):
        """How many elements of a norm there are."""
        check_number(norm, 1, MAX_COUNTED)
        return 240 * sum([divisor * divisor * divisor for divisor in _divisors(norm)])

    def __contains__(self, value):
        return _is_whole(self._at, value)

    def __iter__(self):
        return iter(self._basis)

    def __eq__(self, other):
        return isinstance(other, WholeOrder) and self._at == other._at

    def __str__(self):
        return f"whole order {self._at}"


def _divisors(number):
    """The divisors of an integer above 0."""
    small = []
    divisor = 1
    while divisor * divisor <= number:
        if number % divisor == 0:
            small.append(divisor)
        divisor = divisor + 1
    return small + [number // one for one in small if one * one != number]


def _check_order(value):
    """Refuses every value that is no order."""
    if not isinstance(value, WholeOrder):
        raise InvalidOperation("no order of whole eights")


def _check_whole(order, value):
    """Refuses every value that is no element of the order."""
    if value not in order:
        raise InvalidElement("no element of the order")


def _content(order, element):
    """The greatest integer that makes an element of the order, multiplied by it, of another one, or 0 for 0."""
    rows = [twice(member.entries, member.bottom) for member in order]
    content = 0
    for factor in coordinates(rows, twice(element.entries, element.bottom)):
        content = gcd(content, factor)
    return content


def is_primitive_in(order, value):
    """Whether the value is a primitive element of the order."""
    _check_order(order)
    return value in order and _content(order, value) == 1


def _check_division(order, one, other, ahead):
    """Refuses what cannot be divided with rest."""
    _check_order(order)
    _check_whole(order, one)
    _check_whole(order, other)
    if not other:
        raise InvalidOperation("nothing is divided by 0")
    if not isinstance(ahead, bool):
        raise InvalidOperation("no boolean")


def _nearest(order, element):
    """An element of the order that is as near as can be to an eight."""
    return _halves(nearest_row(order.at, [2 * entry for entry in element.entries], element.bottom))


def divided(order, one, other, *, ahead=False):
    """A quotient and a rest with at most half the norm of the divisor, which stands behind the quotient or ahead."""
    _check_division(order, one, other, ahead)
    inverse = other.inverse()
    if ahead:
        quotient = _nearest(order, inverse * one)
        return quotient, one - other * quotient
    quotient = _nearest(order, one * inverse)
    return quotient, one - quotient * other


def is_divided(order, one, other, value, *, ahead=False):
    """Whether the value is a pair of such a quotient and its rest."""
    _check_division(order, one, other, ahead)
    if not _are_whole(order, value, 2):
        return False
    quotient, rest = value
    product = other * quotient if ahead else quotient * other
    return product + rest == one and (rest.norm * 2).compared(other.norm) <= 0


def _are_whole(order, value, many):
    """Whether the value is a tuple of so many elements of the order."""
    return isinstance(value, tuple) and len(value) == many and all([member in order for member in value])


def _check_factors(order, element, norm):
    """Refuses what has no factor pairs, or is too great for a search."""
    if not is_primitive_in(order, element):
        raise InvalidElement("no primitive element of the order")
    if not (is_passed_integer(norm) and norm >= 1):
        raise InvalidNumber(norm)
    whole = element.norm.top
    if whole % norm != 0 or gcd(norm, whole // norm) != 1:
        raise InvalidOperation("the norm is no divisor that has none in common with the quotient")
    if whole > MAX_COUNTED:
        raise TooMany(MAX_COUNTED)


def _behind(first, element, norm):
    """What the first factor, which has a norm, is multiplied by to make an element."""
    return (first.mate() * element).scaled(ratio_of(1, norm))


def _left_factor(order, element, norm):
    """An element of the order with a norm that divides the norm of an element, which it is a left factor of."""
    rest = element - _nearest(order, element.scaled(ratio_of(1, norm))).scaled(norm)
    if not rest:
        return element_of(_eight(), square_roots(norm, 4) + (0, 0, 0, 0), 1)
    # The rest is the left factor, times some element whose norm is at most half as great: this one is found likewise.
    less = rest.norm.top // norm
    return (rest * _left_factor(order, rest.mate(), less)).scaled(ratio_of(1, less))


def factors(order, element, norm):
    """A pair of elements of the order, the first one with the norm, whose product is the element."""
    _check_factors(order, element, norm)
    first = _left_factor(order, element, norm)
    return first, _behind(first, element, norm)


def is_factors(order, element, norm, value):
    """Whether the value is such a pair."""
    _check_factors(order, element, norm)
    return _are_whole(order, value, 2) and value[0] * value[1] == element and value[0].norm == norm


def left_factors(order, element, norm):
    """The first ones of all factor pairs, ascending by twice their entries."""
    _check_factors(order, element, norm)
    if norm > MAX_LISTED:
        raise TooMany(MAX_LISTED)
    return tuple([first for first in order.of_norm(norm) if _behind(first, element, norm) in order])


def ideal_number(order, asked):
    """The integer by which the order is multiplied to be the least left ideal that has some elements."""
    _check_order(order)
    if not (isinstance(asked, tuple) and 1 <= len(asked) <= _MOST_ASKED):
        raise InvalidElement("no tuple of 1 to 100 elements")
    content = 0
    for element in asked:
        _check_whole(order, element)
        content = gcd(content, _content(order, element))
    if content == 0:
        raise InvalidElement("all elements are 0")
    return content


def ideal_paper(order, element):
    """Triples (x, y, w) for which the products x * (y * (w * element)) add up to the ideal number of the element."""
    number = ideal_number(order, (element,))
    return paper_of(order.basis(), element.scaled(ratio_of(1, number)))


def is_ideal_paper(order, element, value):
    """Whether the value is a tuple of such triples."""
    number = ideal_number(order, (element,))
    if not (isinstance(value, tuple) and all([_are_whole(order, triple, 3) for triple in value])):
        return False
    one = _eight().one()
    total = one.scaled(0)
    for x, y, w in value:
        total = total + x * (y * (w * element))
    return total == one.scaled(ratio_of(number, 1))


def is_of_kirmse(value):
    """Whether the value is an eight of halves whose odd indices are a word of Kirmse."""
    return _is_whole(0, value)


def kirmse_pair():
    """Two elements whose odd indices are words of Kirmse and whose product has none."""
    return _halves((1, 1, 1, 1, 0, 0, 0, 0)), _halves((1, 1, 0, 0, 1, 1, 0, 0))
