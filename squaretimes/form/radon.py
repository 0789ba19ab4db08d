"""Families of sign tables, and rho: how many members they can have."""

from squaretimes.base.integers import check_number, is_integer, sign_of
from squaretimes.double.products import product_of, unit_entries
from squaretimes.errors import InvalidFamily, InvalidOperation, TooMany
from squaretimes.form.formulas import MAX_SIDE, Formula
from squaretimes.form.signs import MAX_SIZE, SignTable

MAX_NUMBER = 10 ** 9
MAX_FAMILY = 64
MAX_FURTHER = 8
MAX_GROWN = 4
_MAX_WORD = 64
_PERIOD = 16


def rho(number):
    """The greatest number of members of a family of this size."""
    check_number(number, 1, MAX_NUMBER)
    twos = (number & -number).bit_length() - 1
    return 8 * (twos // 4) + (1 << (twos % 4))


def _are_sign_tables(value):
    """Whether the value is a tuple of 1 to 64 sign tables of one size."""
    if not (isinstance(value, tuple) and 1 <= len(value) <= MAX_FAMILY):
        return False
    if not all([isinstance(member, SignTable) for member in value]):
        return False
    return all([member.size == value[0].size for member in value])


def _least_pair(tables):
    """The least pair that shows that the tables are no family, or None."""
    if not tables[0].is_idle:
        return 0, 0
    turned = [table.turned() for table in tables]
    for least, table in enumerate(tables):
        for later in range(least + 1, len(tables)):
            # The product of the later one and the turned one ahead is this product, turned.
            both = table * turned[later]
            if both.turned() != -both:
                return least, later
    return None


def broken_pair(tables):
    """The least pair of indices that shows that the tables are no family, or None."""
    if not _are_sign_tables(tables):
        raise InvalidFamily("no tuple of 1 to 64 sign tables of one size")
    return _least_pair(tables)


def is_family(value):
    """Whether the value is a family."""
    return _are_sign_tables(value) and _least_pair(value) is None


def check_family(value):
    """Refuses every value that is no family."""
    if not is_family(value):
        raise InvalidFamily("no family")


def family(size):
    """A family of a size with as many members as there can be."""
    check_number(size, 1, MAX_SIZE)
    power = size & -size
    if power < _PERIOD:
        made = _units_of(power)
    else:
        made = grown(_units_of(power // _PERIOD))
    return copied(made, size // power)


def _units_of(size):
    """The tables by which the units of the algebra of 1, 2, 4 or 8 dimensions multiply from the left side."""
    squares = (-1,) * (size.bit_length() - 1)
    units = [unit_entries(size, at) for at in range(size)]
    return tuple([SignTable(tuple([_mark_of(product_of(squares, unit, row)) for row in units])) for unit in units])


def _mark_of(entries):
    """The mark of a row that has one entry other than 0."""
    return sum([(at + 1) * sign_of(entry) for at, entry in enumerate(entries)])


def crossed(one, other):
    """The sign table that has the other table in the place of each entry of the one, with the sign of the entry."""
    size = other.size
    return SignTable(tuple([
        ((abs(mark) - 1) * size + abs(inner)) * sign_of(mark) * sign_of(inner)
        for mark in one.marks for inner in other.marks
    ]))


def copied(family, many):
    """The family with each member so many times along the diagonal."""
    check_family(family)
    check_number(many, 1, MAX_SIZE)
    if family[0].size * many > MAX_SIZE:
        raise TooMany(MAX_SIZE)
    idle = SignTable.idle(many)
    return tuple([crossed(idle, member) for member in family])


def grown(family):
    """A family of 16 times the size with 8 members more."""
    check_family(family)
    size = family[0].size
    if size > MAX_GROWN:
        raise TooMany(MAX_GROWN)
    swap, turn = SignTable((2, 1)), SignTable((2, -1))
    eights = _units_of(8)
    units = [crossed(swap, unit) for unit in eights[1:]] + [crossed(turn, eights[0])]
    # The product of these eight units anticommutes with each of them, and its square is idle.
    whole = _product(units, _PERIOD)
    idle = SignTable.idle(size)
    ahead = [SignTable.idle(size * _PERIOD)] + [crossed(unit, idle) for unit in units]
    return tuple(ahead + [crossed(whole, member) for member in family[1:]])


def _product(tables, size):
    """The product of sign tables of a size, in their sequence."""
    total = SignTable.idle(size)
    for table in tables:
        total = total * table
    return total


def word_of(family, indices):
    """The product of the members at some indices, in their sequence."""
    check_family(family)
    if not (isinstance(indices, tuple) and len(indices) <= _MAX_WORD):
        raise InvalidOperation("no tuple of at most 64 indices")
    if not all([is_integer(index) and 0 <= index < len(family) for index in indices]):
        raise InvalidOperation("no indices of the family")
    return _product([family[index] for index in indices], family[0].size)


def bar(family):
    """The product of all units if it bars the family from further ones, or None."""
    check_family(family)
    units = family[1:]
    whole = _product(units, family[0].size)
    return whole if len(units) % 4 == 3 and whole.trace != 0 else None


def further(family):
    """A sign table that makes a greater family behind the members, or None."""
    check_family(family)
    size = family[0].size
    if size > MAX_FURTHER:
        raise TooMany(MAX_FURTHER)
    marks = _completed([0] * size, [unit.marks for unit in family[1:]])
    return None if marks is None else SignTable(tuple(marks))


def _completed(marks, units):
    """The marks of a further unit that has the marks other than 0, or None."""
    if 0 not in marks:
        return marks
    row = marks.index(0)
    # Marks above 0 are enough: all that follows from a mark can be there with the other signs as well.
    for mark in range(1, len(marks) + 1):
        more = _spread(marks, row, mark, units)
        found = None if more is None else _completed(more, units)
        if found is not None:
            return found
    return None


def _spread(marks, row, mark, units):
    """The marks with one more of them and all that follow from it, or None if they contradict each other."""
    spread = list(marks)
    waiting = [(row, mark)]
    while waiting:
        at, new = waiting.pop()
        if spread[at] == 0:
            spread[at] = new
            waiting.extend(_followers(at, new, units))
        elif spread[at] != new:
            return None
    return spread


def _followers(row, mark, units):
    """The pairs of a row and its mark that follow from such a pair: turned it is its opposite, and so for the units."""
    column, sign = abs(mark) - 1, sign_of(mark)
    found = [(column, -sign * (row + 1))]
    for unit in units:
        found.append((abs(unit[row]) - 1, -sign_of(unit[row]) * sign * unit[column]))
    return found


def formula_of_family(family):
    """The formula whose tables are those of the members."""
    check_family(family)
    if family[0].size > MAX_SIDE:
        raise TooMany(MAX_SIDE)
    return Formula(tuple([member.table() for member in family]))
