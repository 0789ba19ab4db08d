"""Words of letters: the signs of their products, and the lots of them that make formulas."""

from squaretimes.base.integers import check_number, count_of_ones, is_ascending, is_integer
from squaretimes.base.ratios import Ratio
from squaretimes.errors import InvalidOperation, Refused, TooMany
from squaretimes.form.formulas import known_formula

MAX_LETTERS = 10
MAX_MADE = 5
# No two of these words differ by a weight that 4 divides. More than ten words cannot do so for five letters.
_GREATEST_OF_FIVE = (0, 1, 2, 3, 4, 5, 8, 9, 16, 17)
_GREATEST_OF_LESS = 8


def _check_many(many):
    """Refuses every number of letters that is not within its bounds."""
    check_number(many, 1, MAX_LETTERS)


def _check_word(value, many):
    """Refuses every value that is no word."""
    check_number(value, 0, (1 << many) - 1)


def _check_lots(firsts, seconds, many):
    """Refuses the number of letters, or else the first value that is no lot."""
    _check_many(many)
    for lot in (firsts, seconds):
        if not (is_ascending(lot, 1 << many) and lot):
            raise InvalidOperation("no lot of words")


def _sign(x, y):
    """The sign of two words."""
    # Each letter 1 of y counts the pairs of other letters of x that are 1, and the letters 1 of x up to its place.
    total = 0
    for place in range(y.bit_length()):
        if (y >> place) & 1:
            others = count_of_ones(x) - ((x >> place) & 1)
            total = total + others * (others - 1) // 2 + count_of_ones(x & ((2 << place) - 1))
    return -1 if total & 1 else 1


def word_sign(x, y, many):
    """The sign of two words."""
    _check_many(many)
    _check_word(x, many)
    _check_word(y, many)
    return _sign(x, y)


def word_weight(x, many):
    """The number of the letters of a word that are 1."""
    _check_many(many)
    _check_word(x, many)
    return count_of_ones(x)


def are_let(firsts, seconds, many):
    """Whether two lots have no clash."""
    return clash(firsts, seconds, many) is None


def clash(firsts, seconds, many):
    """Two words of each lot that differ alike, by a weight that 4 divides, or None."""
    _check_lots(firsts, seconds, many)
    for word in range(1, 1 << many):
        if count_of_ones(word) % 4 == 0:
            one, other = _pair_with(firsts, word), _pair_with(seconds, word)
            if one is not None and other is not None:
                return one + other
    return None


def _pair_with(lot, word):
    """The first two words of a lot that differ by a word, the smaller one ahead, or None."""
    members = {member: True for member in lot}
    found = [member for member in lot if member < member ^ word and member ^ word in members]
    return (found[0], found[0] ^ word) if found else None


def is_clash(firsts, seconds, many, value):
    """Whether the value is a clash of two lots."""
    _check_lots(firsts, seconds, many)
    if not (isinstance(value, tuple) and len(value) == 4 and all([is_integer(member) for member in value])):
        return False
    a, b, c, d = value
    if not (a in firsts and b in firsts and c in seconds and d in seconds):
        return False
    return a < b and c < d and a ^ b == c ^ d and count_of_ones(a ^ b) % 4 == 0


def words_formula(firsts, seconds, many):
    """The formula of two lots that are let."""
    found = clash(firsts, seconds, many)
    if many > MAX_MADE:
        raise TooMany(MAX_MADE)
    if found is not None:
        raise Refused(("clash",))
    return known_formula([[_row_of(x, y, 1 << many) for y in seconds] for x in firsts])


def _row_of(x, y, size):
    """The row of ratios with the sign of two words at the place of their difference."""
    return tuple([Ratio(_sign(x, y) if at == x ^ y else 0) for at in range(size)])


def greatest_let(many):
    """A lot with as many words as can be that is let with all words."""
    _check_many(many)
    if many > MAX_MADE:
        raise TooMany(MAX_MADE)
    if many == MAX_MADE:
        return _GREATEST_OF_FIVE
    return tuple(range(min(1 << many, _GREATEST_OF_LESS)))
