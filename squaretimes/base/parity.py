"""Questions of parity: places that lie in rows an odd or an even number of times."""

from squaretimes.base.integers import is_ascending, is_integer
from squaretimes.errors import InvalidOperation

MAX_ROWS = 2000
_PLACES = 1000


def _check_question(rows, sides):
    """Refuses rows that are not as told, or else sides that are not."""
    if not (isinstance(rows, tuple) and len(rows) <= MAX_ROWS and all([is_ascending(row, _PLACES) for row in rows])):
        raise InvalidOperation("no rows of ascending places")
    if not (isinstance(sides, tuple) and len(sides) == len(rows)):
        raise InvalidOperation("not as many sides as rows")
    if not all([is_integer(side) and 0 <= side <= 1 for side in sides]):
        raise InvalidOperation("sides other than 0 and 1")


def _mask_of(members):
    """The integer that has a binary digit 1 at each of the members."""
    return sum([1 << member for member in members])


def _members_of(mask):
    """The ascending tuple of the places of the binary digits 1."""
    return tuple([at for at in range(mask.bit_length()) if (mask >> at) & 1])


def _odd(mask):
    """1 if there is an odd number of binary digits 1 among the places, else 0."""
    # Each step lays one half of the digits on the other one, which leaves the parity as it is.
    width = 512
    while width:
        mask = mask ^ (mask >> width)
        width = width // 2
    return mask & 1


def solved(rows, sides):
    """A pair of a word and a tuple: a solution of the question, or an odd lot."""
    _check_question(rows, sides)
    kept = {}
    for index, row in enumerate(rows):
        mask, side, lot = _cleared(kept, _mask_of(row), sides[index], 1 << index)
        if mask:
            kept[mask.bit_length()] = (mask, side, lot)
        elif side:
            # At most as many rows are kept as there are places; so the lot is that short, and one more.
            return "odd", _members_of(lot)
    return "solution", _members_of(_solution(kept))


def _cleared(kept, mask, side, lot):
    """A sum of rows, with its side and its lot, when the kept ones with its greatest places are added to it."""
    while mask.bit_length() in kept:
        other, other_side, other_lot = kept[mask.bit_length()]
        mask = mask ^ other
        side = side ^ other_side
        lot = lot ^ other_lot
    return mask, side, lot


def _solution(kept):
    """The mask of places that give each kept sum of rows its side."""
    chosen = 0
    # All smaller places of a sum are settled when its greatest one is asked for.
    for length in sorted(list(kept)):
        mask, side, _ = kept[length]
        if _odd(mask & chosen) != side:
            chosen = chosen | (1 << (length - 1))
    return chosen


def is_solved(rows, sides, value):
    """Whether the value is a pair with a solution of the question, or with an odd lot."""
    _check_question(rows, sides)
    if not (isinstance(value, tuple) and len(value) == 2):
        return False
    word, members = value
    if word == "solution":
        return is_ascending(members, _PLACES) and _is_solution(rows, sides, _mask_of(members))
    return word == "odd" and is_ascending(members, len(rows)) and _is_odd_lot(rows, sides, members)


def _is_solution(rows, sides, chosen):
    """Whether the places of a mask give each row its side."""
    return all([_odd(_mask_of(row) & chosen) == side for row, side in zip(rows, sides)])


def _is_odd_lot(rows, sides, indices):
    """Whether each place lies in an even number of these rows, and an odd number of them have the side 1."""
    total = 0
    for index in indices:
        total = total ^ _mask_of(rows[index])
    return total == 0 and sum([sides[index] for index in indices]) % 2 == 1
