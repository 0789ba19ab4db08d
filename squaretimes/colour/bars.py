"""Bars by binomials: sizes of formulas that odd binomials forbid, and formulas of the sizes that are left."""

from squaretimes.base.integers import check_number, is_integer
from squaretimes.form.radon import family, formula_of_family

MAX_SIZE = 1000
MAX_NUMBER = 2000
MAX_TOLD = 9


def _check_sizes(r, s):
    """Refuses two sizes that are not both integers within their bounds."""
    check_number(r, 1, MAX_SIZE)
    check_number(s, 1, MAX_SIZE)


def _check_all(r, s, n):
    """Refuses two sizes and a number that are not all integers within their bounds."""
    _check_sizes(r, s)
    check_number(n, 1, MAX_NUMBER)


def _is_odd(number, k):
    """Whether a binomial, of integers of which the first one is above 0, is odd."""
    # It is odd exactly if each binary digit 1 of k is one of the number.
    return 0 <= k <= number and number & k == k


def _odd_ones(r, s, n):
    """The ascending list of the integers between n - r and s whose binomials are odd."""
    return [k for k in range(n - r + 1, s) if _is_odd(n, k)]


def least_let(r, s):
    """The least number that lets the sizes r and s."""
    _check_sizes(r, s)
    return _least(min(r, s), max(r, s))


def _least(less, more):
    """The least number that lets two sizes, of which the first one is not the greater one."""
    if more == 1:
        return 1
    half = _power_below(more)
    if less > half:
        return 2 * half
    rest = more - half
    return half + _least(min(less, rest), max(less, rest))


def _power_below(number):
    """The greatest power of two below an integer above 1."""
    return 1 << ((number - 1).bit_length() - 1)


def is_let(r, s, n):
    """Whether n lets the sizes r and s."""
    _check_all(r, s, n)
    return not _odd_ones(r, s, n)


def odd_binomial(r, s, n):
    """An integer between n - r and s whose binomial of n is odd, or None."""
    _check_all(r, s, n)
    found = _odd_ones(r, s, n)
    return found[0] if found else None


def is_odd_binomial(r, s, n, value):
    """Whether the value is an integer between n - r and s whose binomial of n is odd."""
    _check_all(r, s, n)
    return is_integer(value) and n - r < value < s and _is_odd(n, value)


def left_terms(r, s, n):
    """The ascending tuple of the pairs of exponents of the left terms."""
    _check_all(r, s, n)
    # The exponents add up to n: that of Y is below s exactly if that of X is above n - s.
    return tuple([(k, n - k) for k in _odd_ones(s, r, n)])


def told_formula(r, s):
    """A formula of the least size that lets r and s, with the entries 0, 1 and -1 alone."""
    check_number(r, 1, MAX_TOLD)
    check_number(s, 1, MAX_TOLD)
    return _told(s, r).exchanged() if r > s else _told(r, s)


def _told(less, more):
    """The told formula of two sizes, of which the first one is not the greater one."""
    half = _power_below(more) if more > 1 else 0
    if less > half:
        return _cut_formula(less, more, max(2 * half, 1))
    return _cut_formula(less, half, half).beside(told_formula(less, more - half))


def _cut_formula(r, s, size):
    """The formula of the sizes r, s and one that is a power of two, cut from that of a family."""
    return formula_of_family(family(size)).cut(tuple(range(r)), tuple(range(s)))
