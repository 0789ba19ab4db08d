"""Sums of squares of integers and ratios."""

from math import isqrt

from squaretimes.base.integers import check_number, is_integer
from squaretimes.base.ratios import Ratio, check_ratio, check_ratios, over_one_bottom, parts_of
from squaretimes.base.tables import sum_of_squares
from squaretimes.errors import InvalidOperation, TooMany

MAX_SQUARED = 10 ** 8
MAX_MANY = 16
_MOST_SQUARES = 4
_MOST_MADE_WHOLE = 3


def is_sum(ratio, many):
    """Whether a ratio is a sum of so many squares of ratios."""
    return squares_of(ratio, many) is not None


def squares_of(ratio, many):
    """So many ratios whose squares add up to a ratio, or None."""
    check_ratio(ratio)
    check_number(many, 1, _MOST_SQUARES)
    top, bottom = parts_of(ratio)
    if abs(top * bottom) > MAX_SQUARED:
        raise TooMany(MAX_SQUARED)
    # The ratio is top * bottom, divided by the square of the bottom.
    roots = square_roots(top * bottom, many)
    return None if roots is None else tuple([Ratio(root, bottom) for root in roots])


def whole_squares(number, many):
    """So many integers whose squares add up to the number, or None."""
    check_number(number, 0, MAX_SQUARED)
    check_number(many, 1, _MOST_SQUARES)
    return square_roots(number, many)


def square_roots(number, many):
    """So many integers whose squares add up to the number, the greatest one first, or None."""
    if number < 0 or (many == 3 and _is_no_three(number)):
        return None
    if many == 1:
        root = isqrt(number)
        return (root,) if root * root == number else None
    # Up to three squares add up to a multiple of 4 only if all of them are even.
    if number > 0 and number % 4 == 0 and many < 4:
        halves = square_roots(number // 4, many)
        return None if halves is None else tuple([half * 2 for half in halves])
    # The greatest one of so many squares has at least its share of the number.
    for root in range(isqrt(number), isqrt(number // many) - 1, -1):
        rest = square_roots(number - root * root, many - 1)
        if rest is not None:
            return (root,) + rest
    return None


def _is_no_three(number):
    """Whether an integer of at least 0 is 4^s * (8 * m + 7), and so no sum of three squares."""
    zeros = (number & -number).bit_length() - 1
    return number > 0 and zeros % 2 == 0 and (number >> zeros) % 8 == 7


def made_whole(values):
    """As many integers as there are values, with the same sum of the squares."""
    check_ratios(values, 1, _MOST_MADE_WHOLE)
    if sum_of_squares(values).bottom != 1:
        raise InvalidOperation("the sum of the squares is no integer")
    # Integers stay as they are, so that no integer gets longer than the longest one that is passed.
    whole = [parts_of(value)[0] for value in values if parts_of(value)[1] == 1]
    broken = [value for value in values if parts_of(value)[1] != 1]
    return tuple(whole + _whole_in_place_of(broken))


def _whole_in_place_of(ratios):
    """Integers in the place of at most three ratios, with the same sum of the squares, which is an integer."""
    tops, bottom = over_one_bottom(ratios)
    norm = sum([top * top for top in tops]) // (bottom * bottom)
    # The line through a point of a sphere and the nearest whole point meets the sphere once more. The distance
    # of both is below 1, and that point has the bottom times the square of the distance as its bottom.
    while any([top % bottom for top in tops]):
        near = [(2 * top + bottom) // (2 * bottom) for top in tops]
        excess = sum([one * one for one in near]) - norm
        slope = 2 * (norm * bottom - sum([top * one for top, one in zip(tops, near)]))
        tops = [excess * top + slope * one for top, one in zip(tops, near)]
        bottom = excess * bottom + slope
    return [top // bottom for top in tops]


def open_pair(many):
    """Two tuples of so many ratios whose sums of squares have no such sum as their product, or None."""
    check_number(many, 1, MAX_MANY)
    if many != 3:
        return None
    # 3 times 21 is 63, which leaves 7 by 8.
    return (Ratio(1), Ratio(1), Ratio(1)), (Ratio(4), Ratio(2), Ratio(1))


def is_open_pair(many, value):
    """Whether the value is an open pair of so many ratios and integers."""
    check_number(many, 1, MAX_MANY)
    if many != 3 or not (isinstance(value, tuple) and len(value) == 2):
        return False
    if not all([_is_row(row, many) for row in value]):
        return False
    one, other = value
    return _is_no_three(_sum_number(one) * _sum_number(other))


def _is_row(value, many):
    """Whether the value is a tuple of so many ratios and integers of any length."""
    if not (isinstance(value, tuple) and len(value) == many):
        return False
    return all([isinstance(member, Ratio) or is_integer(member) for member in value])


def _sum_number(row):
    """An integer that differs from the sum of the squares of a row by the square of a ratio alone."""
    tops, _ = over_one_bottom(row)
    return sum([top * top for top in tops])
