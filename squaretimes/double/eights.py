"""Eights: which of them are alike, and the ways between them."""

from squaretimes.base.integers import is_integer
from squaretimes.base.ratios import Ratio, ratio_of
from squaretimes.double.doubled import Doubled, element_in, is_element_of
from squaretimes.double.frames import frame_of
from squaretimes.double.products import unit_norms
from squaretimes.errors import InvalidAlgebra, InvalidElement, InvalidNumber, InvalidOperation, TooMany
from squaretimes.square.sums import square_roots

MAX_SQUARE = 30
MAX_WANTED = 1000


def _check_eight(value):
    """Refuses every value that is no doubled algebra of three squares."""
    if not (isinstance(value, Doubled) and len(value.squares) == 3):
        raise InvalidAlgebra("no eight")


def _check_squares(algebra):
    """Refuses an eight with a square that is too great for a search."""
    if not all([abs(square) <= MAX_SQUARE for square in algebra.squares]):
        raise TooMany(MAX_SQUARE)


def are_alike(one, other):
    """Whether two eights are alike."""
    _check_eight(one)
    _check_eight(other)
    return one.is_definite == other.is_definite


def images(one, other):
    """Images of the one eight in the other one, or None if they are not alike."""
    alike = are_alike(one, other)
    _check_squares(one)
    _check_squares(other)
    if not alike:
        return None
    # Both ways lead from one and the same eight: the first one is taken back.
    between = _between(one)
    return _followed(_taken_back(between, one, frame_of(one)), frame_of(other))


def _between(algebra):
    """The eight of the same kind whose images the frames are."""
    return Doubled((-1, -1, -1)) if algebra.is_definite else Doubled((1, 1, 1))


def is_images(one, other, value):
    """Whether the value is a triple of images of the one eight in the other one."""
    _check_eight(one)
    _check_eight(other)
    if not (isinstance(value, tuple) and len(value) == 3):
        return False
    if not all([is_element_of(other, member) for member in value]):
        return False
    x, y, z = value
    if not all([_is_square_of(square, member) for square, member in zip(one.squares, value)]):
        return False
    return _anticommute(x, y) and _anticommute(x, z) and _anticommute(y, z) and _anticommute(x * y, z)


def _is_square_of(number, element):
    """Whether the square of an element is a number."""
    return element * element == element.algebra.one().scaled(number)


def _anticommute(one, other):
    """Whether the products of two elements in both sequences are opposite."""
    return one * other == -(other * one)


def _check_way(one, other, value):
    """Refuses every value but images of the one eight in the other one."""
    if not is_images(one, other, value):
        raise InvalidOperation("no images")


def led(one, other, way, element):
    """The element of the other eight to which the images lead an element of the one."""
    _check_eight(one)
    _check_eight(other)
    _check_way(one, other, way)
    if not is_element_of(one, element):
        raise InvalidElement("no element of the first eight")
    return _led(_unit_images(way), element)


def _unit_images(way):
    """The images of all units that are told by those of e1, e2 and e4."""
    x, y, z = way
    return x.algebra.one(), x, y, x * y, z, x * z, y * z, (x * y) * z


def _led(led_units, element):
    """The element to which an element is led, if its units are led so."""
    total = led_units[0].scaled(0)
    for unit, entry in zip(led_units, element.entries):
        total = total + unit.scaled(ratio_of(entry, element.bottom))
    return total


def taken_back(one, other, way):
    """The images of the other eight in the one that lead each element back."""
    _check_eight(one)
    _check_eight(other)
    _check_way(one, other, way)
    return _taken_back(one, other, way)


def _taken_back(one, other, way):
    """The images that lead back, of a way that is known to be one."""
    led_units = _unit_images(way)
    return tuple([_led_from(one, other, led_units, at) for at in (1, 2, 4)])


def _led_from(one, other, led_units, at):
    """The element of the one eight that is led to the unit of the other one with an index."""
    # The images of the units stand upright to each other, as the units do, and have the norms of these.
    norm = unit_norms(other.squares)[at]
    parts = [ratio_of(norm * unit.entries[at], unit.bottom) for unit in led_units]
    return element_in(one, [part.over(less) for part, less in zip(parts, unit_norms(one.squares))])


def followed(one, other, third, first, second):
    """The images of the one eight in the third that lead as the first way does, and then as the second."""
    _check_eight(one)
    _check_eight(other)
    _check_eight(third)
    _check_way(one, other, first)
    _check_way(other, third, second)
    return _followed(first, second)


def _followed(first, second):
    """The images that two ways make which are known to follow one another."""
    led_units = _unit_images(second)
    return tuple([_led(led_units, element) for element in first])


def _check_wanted(number):
    """Refuses every value but the integers other than 0 that are not too great."""
    if not (is_integer(number) and 0 < abs(number) <= MAX_WANTED):
        raise InvalidNumber(number)


def with_square(algebra, number):
    """An element of the eight with the trace 0 whose square is the number, or None."""
    _check_eight(algebra)
    _check_wanted(number)
    _check_squares(algebra)
    if algebra.is_definite and number > 0:
        return None
    x, y, z = frame_of(algebra)
    if algebra.is_definite:
        parts, factors = (x, y, x * y, z), square_roots(-number, 4)
    else:
        # The square of x is 1, that of x y is -1: the number is the difference of two squares.
        parts, factors = (x, x * y), (Ratio(number + 1, 2), Ratio(number - 1, 2))
    return sum([part.scaled(factor) for part, factor in zip(parts, factors)], start=algebra.one().scaled(0))


def is_with_square(algebra, number, value):
    """Whether the value is an element of the eight with the trace 0 whose square is the number."""
    _check_eight(algebra)
    _check_wanted(number)
    if not is_element_of(algebra, value):
        return False
    return value.trace == 0 and _is_square_of(number, value)
