"""Levels: how many squares add up to -1 beside the root of a negative integer."""

from math import isqrt

from squaretimes.base.integers import is_integer
from squaretimes.base.ratios import Ratio
from squaretimes.base.tables import sum_of_squares
from squaretimes.errors import InvalidNumber
from squaretimes.square.sums import whole_squares

MAX_LEVELLED = 10 ** 4


def _check_levelled(number):
    """Refuses every value but the integers from 1 to the bound that the square of no prime divides."""
    if not (is_integer(number) and 1 <= number <= MAX_LEVELLED):
        raise InvalidNumber(number)
    if not all([number % (root * root) for root in range(2, isqrt(number) + 1)]):
        raise InvalidNumber(number)


def level(number):
    """The least number of members of a level paper."""
    _check_levelled(number)
    if number == 1:
        return 1
    return 4 if number % 8 == 7 else 2


def level_paper(number):
    """A level paper with as many members as the level."""
    many = level(number)
    if many == 1:
        return ((Ratio(0), Ratio(1)),)
    if many == 2:
        return _paper_of_three(whole_squares(number, 3))
    return _paper_of_four(whole_squares(number, 4))


def _paper_of_three(roots):
    """The paper of two members for three roots, of which the last two are not both 0."""
    one, other, third = roots
    below = other * other + third * third
    ahead = (Ratio(third * one, below), Ratio(other, below))
    return ahead, (Ratio(-other * one, below), Ratio(third, below))


def _paper_of_four(roots):
    """The paper of four members for four roots, of which the first one is not 0."""
    below = roots[0]
    behind = [(Ratio(root, below), Ratio(0)) for root in roots[1:]]
    return tuple([(Ratio(0), Ratio(1, below))] + behind)


def is_level_paper(number, value):
    """Whether the value is a level paper with as many members as the level, of pairs of ratios."""
    many = level(number)
    if not (isinstance(value, tuple) and len(value) == many and all([_is_pair(pair) for pair in value])):
        return False
    firsts = sum_of_squares(tuple([first for first, _ in value]))
    seconds = sum_of_squares(tuple([second for _, second in value]))
    products = sum([first * second for first, second in value], start=Ratio(0))
    return firsts - seconds * number == -1 and products == 0


def _is_pair(value):
    """Whether the value is a pair of ratios."""
    return isinstance(value, tuple) and len(value) == 2 and all([isinstance(member, Ratio) for member in value])
