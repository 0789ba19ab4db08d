"""Codes: the words of indices that tell which eights are whole, and rows of integers that have such words.

Eights are told here by the tuples of twice their entries. A word is told by the integer that has a binary digit 1 at
each index in it. The words of an index are those of Kirmse with 0 and the index exchanged; those of 0 are Kirmse's.
"""

_LINES = ((1, 2, 3), (1, 4, 5), (1, 6, 7), (2, 4, 6), (2, 5, 7), (3, 4, 7), (3, 5, 6))
_SIZE = 8
_ALL = 255


def words_of(at):
    """The words of an index."""
    lines = [1 + sum([1 << place for place in line]) for line in _LINES]
    kirmse = [0, _ALL] + lines + [_ALL - line for line in lines]
    return [_exchanged(word, at) for word in kirmse]


def _exchanged(word, at):
    """The word with 0 and an index exchanged."""
    if word & 1 == (word >> at) & 1:
        return word
    return word ^ (1 | (1 << at))


def twice(entries, bottom):
    """Twice some entries that are divided by a bottom in lowest terms, or None if these are no integers."""
    if bottom > 2:
        return None
    return tuple([entry * (2 // bottom) for entry in entries])


def is_row_of(at, row):
    """Whether the odd integers of a row stand at the indices of a word of an index."""
    return sum([1 << place for place, entry in enumerate(row) if entry % 2 == 1]) in words_of(at)


def basis_rows(at):
    """Eight rows of which those of a word of an index are sums of multiples, each with 0 ahead of its own place."""
    rows = []
    for place in range(_SIZE):
        behind = [word for word in words_of(at) if word & ((2 << place) - 1) == 1 << place]
        row = [int(other == place) * 2 for other in range(_SIZE)]
        rows.append([(behind[0] >> other) & 1 for other in range(_SIZE)] if behind else row)
    return rows


def coordinates(rows, row):
    """The integers by which the basis rows are multiplied to have a row as their sum."""
    left = list(row)
    found = []
    for place, leader in enumerate(rows):
        factor = left[place] // leader[place]
        left = [entry - factor * less for entry, less in zip(left, leader)]
        found.append(factor)
    return found


def nearest_row(at, tops, bottom):
    """A row of a word of an index that is as near as can be to a row of tops over one bottom above 0."""
    near = [_nearest_to(word, tops, bottom) for word in words_of(at)]
    _, row = min([(_distance(row, tops, bottom), row) for row in near])
    return row


def _nearest_to(word, tops, bottom):
    """The nearest row whose odd integers stand at the indices of a word."""
    parts = [(word >> place) & 1 for place in range(_SIZE)]
    return tuple([odd + 2 * ((top + (1 - odd) * bottom) // (2 * bottom)) for odd, top in zip(parts, tops)])


def _distance(row, tops, bottom):
    """The square of the distance of a row from tops over one bottom, times that of the bottom."""
    return sum([(entry * bottom - top) * (entry * bottom - top) for entry, top in zip(row, tops)])


def rows_of_norm(at, norm):
    """The ascending list of the rows of words of an index whose squares add up to four times the norm."""
    found = []
    for word in words_of(at):
        found.extend([row for total, row in _rows_within(word, 4 * norm) if total == 4 * norm])
    return sorted(found)


def _rows_within(word, most):
    """Pairs of the sum of the squares, at most as told, and a row whose odd integers stand at the indices of a word."""
    found = [(0, ())]
    for place in range(_SIZE):
        entries = (-1, 1) if (word >> place) & 1 else (-2, 0, 2)
        found = [
            (total + entry * entry, row + (entry,)) for total, row in found for entry in entries
            if total + entry * entry <= most
        ]
    return found
