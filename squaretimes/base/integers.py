"""What an integer is, and how integers that are passed are checked and read."""

from squaretimes.errors import InvalidNumber

MOST_DIGITS = 60
TOO_LONG = 10 ** 60


def is_integer(value):
    """Whether the value is an integer, of any length: True and False are none."""
    return isinstance(value, int) and not isinstance(value, bool)


def is_passed_integer(value):
    """Whether the value is an integer that is short enough to be passed."""
    return is_integer(value) and -TOO_LONG < value < TOO_LONG


def check_number(value, least, most):
    """Refuses every value but the integers from the least to the most."""
    if not (is_integer(value) and least <= value <= most):
        raise InvalidNumber(value)


def is_ascending(value, bound):
    """Whether the value is an ascending tuple of integers from 0 on that are below the bound."""
    if not (isinstance(value, tuple) and all([is_integer(member) for member in value])):
        return False
    if not all([0 <= member < bound for member in value]):
        return False
    return all([member < later for member, later in zip(value, value[1:])])


def sign_of(number):
    """1, 0 or -1, as the integer is above 0, 0 or below 0."""
    if number < 0:
        return -1
    return 1 if number > 0 else 0


def count_of_ones(number):
    """The number of the binary digits 1 of an integer of at least 0."""
    digits = f"{number:b}"
    return digits.count("1")


def read_integer(text):
    """The integer with this `str` and at most sixty digits, or None."""
    digits = text.removeprefix("-")
    # The length is asked first: Python itself refuses to read very long integers.
    if len(digits) > MOST_DIGITS or not (digits.isascii() and digits.isdigit()):
        return None
    number = int(text)
    return number if str(number) == text else None
