"""Tables of colours, and the signs that make formulas of them."""

from squaretimes.base.integers import check_number, is_ascending, is_integer
from squaretimes.base.parity import is_solved, solved
from squaretimes.base.ratios import Ratio
from squaretimes.base.tables import is_grid, turned_lists
from squaretimes.errors import InvalidColours, InvalidOperation, Refused, TooMany
from squaretimes.form.formulas import check_choice, check_formula, known_formula

MAX_SIDE = 16
MAX_WORD = 1024
MAX_SEARCHED = 4
_MAX_COLUMNS = 32


def _are_rows(value):
    """Whether the value is a tuple of rows whose colours are all the integers from 0 on to some one."""
    if not is_grid(value, MAX_SIDE):
        return False
    cells = [cell for row in value for cell in row]
    if not all([is_integer(cell) for cell in cells]):
        return False
    colours = sorted(set(cells))
    return colours == list(range(len(colours)))


def _twice(line):
    """The least pair of places at which a row or a column has one colour, or None."""
    for first, colour in enumerate(line):
        later = [place for place in range(first + 1, len(line)) if line[place] == colour]
        if later:
            return first, later[0]
    return None


def _line_breach(word, lines):
    """The first colour that comes twice in one of the rows or columns, after the word for these, or None."""
    for at, line in enumerate(lines):
        found = _twice(line)
        if found is not None:
            return word, at, found[0], found[1]
    return None


def _corner_breach(rows):
    """The first breach of the corner rule by rows in which no colour comes twice, or None."""
    places = [{colour: place for place, colour in enumerate(row)} for row in rows]
    for i, row in enumerate(rows):
        for j, colour in enumerate(row):
            for k in range(i + 1, len(rows)):
                place = places[k].get(colour)
                if place is not None and row[place] != rows[k][j]:
                    return "corner", i, j, k, place
    return None


def _breach_of(rows):
    """What shows that the rows of a colouring do not go, or None."""
    found = _line_breach("row", rows)
    if found is None:
        found = _line_breach("column", turned_lists(rows))
    return _corner_breach(rows) if found is None else found


def is_going(value):
    """Whether the value is a tuple of rows of a colouring that goes."""
    return _are_rows(value) and _breach_of(value) is None


def breach(rows):
    """What shows first that a colouring does not go, or None if it goes."""
    if not _are_rows(rows):
        raise InvalidColours("no rows of a colouring")
    return _breach_of(rows)


class Colours:
    """A colouring that goes. It never changes."""

    def __init__(self, rows):
        found = breach(rows)
        if found is not None:
            raise Refused(found)
        self._rows = rows

    @property
    def rows(self):
        """The rows, a tuple of tuples."""
        return self._rows

    @property
    def many(self):
        """The number of the colours."""
        return 1 + max([max(row) for row in self._rows])

    def pieces(self):
        """The ascending tuple of the pieces (i, k, j, l)."""
        found = []
        for i, row in enumerate(self._rows):
            for k in range(i + 1, len(self._rows)):
                other = self._rows[k]
                found.extend([
                    (i, k, first, last) for first in range(len(row)) for last in range(first + 1, len(row))
                    if row[first] == other[last] and row[last] == other[first]
                ])
        return tuple(found)

    def formula(self, signs):
        """The formula that signs that fit make of the colours."""
        if not _fit(self, signs):
            raise InvalidOperation("no signs that fit")
        many = self.many
        if many > _MAX_COLUMNS:
            raise TooMany(_MAX_COLUMNS)
        return known_formula([
            [_row_of(colour, sign, many) for colour, sign in zip(row, line)] for row, line in zip(self._rows, signs)
        ])

    def cut(self, firsts, seconds):
        """The colouring of the cells in some rows and some columns, with its colours numbered from 0."""
        check_choice(firsts, len(self._rows))
        check_choice(seconds, len(self._rows[0]))
        return _numbered([[self._rows[first][second] for second in seconds] for first in firsts])

    def exchanged(self):
        """The colouring with rows and columns exchanged."""
        return Colours(turned_lists(self._rows))

    def __eq__(self, other):
        return isinstance(other, Colours) and self._rows == other._rows

    def __len__(self):
        return len(self._rows)

    def __iter__(self):
        return iter(self._rows)

    def __str__(self):
        return "/".join([" ".join([str(colour) for colour in row]) for row in self._rows])


def _check_colours(value):
    """Refuses every value that is no colouring that goes."""
    if not isinstance(value, Colours):
        raise InvalidColours("no colouring that goes")


def _numbered(rows):
    """The colouring of rows of integers, which are numbered from 0 in ascending order."""
    left = sorted(set([number for row in rows for number in row]))
    numbers = {number: at for at, number in enumerate(left)}
    return Colours(tuple([tuple([numbers[number] for number in row]) for row in rows]))


def _row_of(place, sign, size):
    """The row of ratios with a sign at a place and 0 elsewhere."""
    return tuple([Ratio(sign if at == place else 0) for at in range(size)])


def _are_signs(value, rows, columns):
    """Whether the value is a tuple of so many tuples of so many integers 1 and -1."""
    if not (isinstance(value, tuple) and len(value) == rows):
        return False
    if not all([isinstance(row, tuple) and len(row) == columns for row in value]):
        return False
    return all([is_integer(sign) and abs(sign) == 1 for row in value for sign in row])


def _fit(colours, signs):
    """Whether the value are signs that fit the colours."""
    rows = colours.rows
    if not _are_signs(signs, len(rows), len(rows[0])):
        return False
    return all([signs[i][j] * signs[i][l] * signs[k][j] * signs[k][l] == -1 for i, k, j, l in colours.pieces()])


def _question(colours):
    """The question of parity whose solutions are the cells with -1 of signs that fit."""
    size = len(colours.rows[0])
    rows = tuple([(i * size + j, i * size + l, k * size + j, k * size + l) for i, k, j, l in colours.pieces()])
    return rows, (1,) * len(rows)


def signed(colours):
    """A pair of a word and a tuple: signs that fit, or an odd lot of pieces."""
    _check_colours(colours)
    rows, sides = _question(colours)
    word, members = solved(rows, sides)
    if word == "odd":
        return word, members
    minus = {cell: True for cell in members}
    size = len(colours.rows[0])
    signs = [[-1 if i * size + j in minus else 1 for j in range(size)] for i in range(len(colours.rows))]
    return "signs", tuple([tuple(row) for row in signs])


def is_signed(colours, value):
    """Whether the value is a pair with signs that fit, or with an odd lot."""
    _check_colours(colours)
    if not (isinstance(value, tuple) and len(value) == 2):
        return False
    word, members = value
    if word == "signs":
        return _fit(colours, members)
    rows, sides = _question(colours)
    return word == "odd" and is_solved(rows, sides, value)


def colours_of(formula):
    """The pair of the colouring and the signs of a whole formula, without the columns of zeros."""
    check_formula(formula)
    if not formula.is_whole:
        raise InvalidOperation("the formula is not whole")
    if max(formula.sizes[:2]) > MAX_SIDE:
        raise TooMany(MAX_SIDE)
    places = [[_place_of(row) for row in table] for table in formula.tables]
    signs = [[row[_place_of(row)].top for row in table] for table in formula.tables]
    return _numbered(places), tuple([tuple(row) for row in signs])


def _place_of(row):
    """The place of the one entry of a row that is not 0."""
    return [place for place, entry in enumerate(row) if entry][0]


def _check_words(value):
    """Refuses every value but an ascending tuple of 1 to 16 words."""
    if not (is_ascending(value, MAX_WORD) and 1 <= len(value) <= MAX_SIDE):
        raise InvalidOperation("no ascending tuple of words")


def xor_colours(rows, columns):
    """The colouring of words by their differences, numbered in ascending order."""
    _check_words(rows)
    _check_words(columns)
    return _numbered([[row ^ column for column in columns] for row in rows])


def all_colours(many_rows, many_columns, most):
    """Yields all colourings that go with so many sides, whose colours come for the first time in ascending order."""
    check_number(many_rows, 1, MAX_SEARCHED)
    check_number(many_columns, 1, MAX_SEARCHED)
    check_number(most, 1, MAX_SIDE)
    lots = [((), 0)]
    for cell in range(many_rows * many_columns):
        lots = [
            (cells + (colour,), max(many, colour + 1)) for cells, many in lots for colour in range(min(many + 1, most))
            if _goes_on(cells, cell, colour, many_columns)
        ]
    for cells, _ in lots:
        yield Colours(_rows_of(cells, many_columns))


def _rows_of(cells, size):
    """The rows of so many cells each that stand one behind the other."""
    return tuple([cells[first:first + size] for first in range(0, len(cells), size)])


def _goes_on(cells, cell, colour, size):
    """Whether the cells read so far still go if the next one has a colour."""
    row, column = cell // size, cell % size
    if colour in cells[row * size:]:
        return False
    for above in range(row):
        if cells[above * size + column] == colour:
            return False
        for left in range(column):
            ahead = cells[above * size + left] == colour
            if ahead != (cells[above * size + column] == cells[row * size + left]):
                return False
    return True


def least_signed(many_rows, many_columns):
    """The least number of colours of a colouring with so many sides for which signs fit."""
    numbers = []
    for colours in all_colours(many_rows, many_columns, MAX_SIDE):
        if signed(colours)[0] == "signs":
            numbers.append(colours.many)
    return min(numbers)
