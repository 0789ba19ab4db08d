"""Worlds of units that anticommute and have the squares 1 and -1."""

from squaretimes.base.integers import check_number, count_of_ones, is_integer
from squaretimes.errors import InvalidOperation, TooMany
from squaretimes.form.radon import crossed, family
from squaretimes.form.signs import SignTable

MAX_UNITS = 8
# For each rest of p - q by 8: the word, what the number of words is divided by, and by what the size is multiplied.
_KINDS = (
    ("ratios", 1, 1), ("two ratios", 2, 1), ("ratios", 1, 1), ("twos", 2, 2),
    ("fours", 4, 4), ("two fours", 8, 4), ("fours", 4, 4), ("twos", 2, 2),
)


def _check_units(plus, minus):
    """Refuses the first number of units that is not within its bounds."""
    check_number(plus, 0, MAX_UNITS)
    check_number(minus, 0, MAX_UNITS)


def _check_sum(plus, minus):
    """Refuses more units than there can be."""
    if plus + minus > MAX_UNITS:
        raise TooMany(MAX_UNITS)


def _check_world(plus, minus):
    """Refuses numbers of units that are no world."""
    _check_units(plus, minus)
    _check_sum(plus, minus)


def word_product(plus, minus, one, other):
    """The pair of the sign and the mask of the product of two words."""
    _check_units(plus, minus)
    last = (1 << (plus + minus)) - 1
    check_number(one, 0, last)
    check_number(other, 0, last)
    _check_sum(plus, minus)
    return _product(plus, one, other)


def _product(plus, one, other):
    """The sign and the mask of the product of two words of a world with so many units with the square 1."""
    # Each unit of the other word goes past the later units of the one word; units that meet make their square.
    passed = sum([count_of_ones(one >> (at + 1)) for at in range(other.bit_length()) if (other >> at) & 1])
    sign = -1 if (passed + count_of_ones((one & other) >> plus)) & 1 else 1
    return sign, one ^ other


def centre(plus, minus):
    """The ascending tuple of the masks of the words that commute with all units."""
    _check_world(plus, minus)
    many = plus + minus
    return (0,) if many % 2 == 0 else (0, (1 << many) - 1)


def _check_unit(plus, minus):
    """Refuses numbers of units that are no world, and the world without units."""
    _check_world(plus, minus)
    if plus + minus == 0:
        raise InvalidOperation("there is no unit")


def even_units(plus, minus):
    """The masks of words with two units each that are the units of the sums of the even words."""
    _check_unit(plus, minus)
    # Each other unit times the last one: the squares are those of the others if that of the last one is -1, and
    # otherwise all are -1, as there is no unit with the square -1.
    last = plus + minus - 1
    return tuple([(1 << at) | (1 << last) for at in range(last)])


def is_even_units(plus, minus, value):
    """Whether the value is a tuple of masks of words that are the units of the sums of the even words."""
    _check_unit(plus, minus)
    many = plus + minus
    if not (isinstance(value, tuple) and len(value) == many - 1):
        return False
    if not all([is_integer(mask) and 0 < mask < 1 << many and count_of_ones(mask) == 2 for mask in value]):
        return False
    squares = [_product(plus, mask, mask)[0] for mask in value]
    wanted = [_squares_of(p, q) for p, q in ((plus, minus - 1), (minus, plus - 1)) if q >= 0]
    return squares in wanted and _anticommute(plus, value) and _make_all(value)


def _squares_of(plus, minus):
    """The list of the squares of the units of a world."""
    return [1] * plus + [-1] * minus


def _anticommute(plus, masks):
    """Whether each two of some words anticommute."""
    for at, one in enumerate(masks):
        for other in masks[at + 1:]:
            if _product(plus, one, other)[0] == _product(plus, other, one)[0]:
                return False
    return True


def _make_all(masks):
    """Whether all products of some of the words are unlike: then they are all words with an even number of units."""
    made = [0]
    for mask in masks:
        made = made + [word ^ mask for word in made]
    return len(set(made)) == len(made)


def world_of(plus, minus):
    """The pair of a word for the numbers in the tables with which a world is alike, and their size."""
    _check_world(plus, minus)
    word, divisor, _ = _KINDS[(plus - minus) % 8]
    # The number of words, divided so, is a power of four.
    return word, 1 << (((1 << (plus + minus)) // divisor).bit_length() // 2)


def least_size(plus, minus):
    """The least size of tables of ratios that are images of the units."""
    _, size = world_of(plus, minus)
    _, _, factor = _KINDS[(plus - minus) % 8]
    return size * factor


def images_of_units(plus, minus):
    """Images of the units that are sign tables of the least size."""
    _check_world(plus, minus)
    return tuple(_images(plus, minus))


def _images(plus, minus):
    """The list of sign tables of the least size that are images of the units."""
    swap, turn, flip = SignTable((2, 1)), SignTable((2, -1)), SignTable((1, -2))
    if plus and minus:
        less = _images(plus - 1, minus - 1)
        idle = SignTable.idle(least_size(plus - 1, minus - 1))
        images = [crossed(image, flip) for image in less]
        return images[:plus - 1] + [crossed(idle, swap)] + images[plus - 1:] + [crossed(idle, turn)]
    if minus:
        return list(family(least_size(0, minus))[1:minus + 1])
    if plus >= 2:
        # Units with the square -1 have the square 1 when they are crossed with a table that has the square -1.
        idle = SignTable.idle(least_size(0, plus - 2))
        images = [crossed(image, turn) for image in _images(0, plus - 2)]
        return images + [crossed(idle, swap), crossed(idle, flip)]
    return [SignTable.idle(1)] * plus


def is_images_of_units(plus, minus, value):
    """Whether the value is a tuple of sign tables of one size that are images of the units."""
    _check_world(plus, minus)
    if not (isinstance(value, tuple) and len(value) == plus + minus):
        return False
    if not all([isinstance(image, SignTable) for image in value]):
        return False
    if not all([image.size == value[0].size for image in value]):
        return False
    for at, image in enumerate(value):
        square = SignTable.idle(image.size)
        if image * image != (square if at < plus else -square):
            return False
        if not all([image * other == -(other * image) for other in value[at + 1:]]):
            return False
    return True
