"""Lattices read back from their labels."""

from latticewish.combined import PairLattice, TurnedLattice
from latticewish.errors import BadLattice
from latticewish.families import ChainLattice, DownLattice, SetLattice
from latticewish.lattices import OrderLattice
from latticewish.tokens import tokens_of

# Ten lattices in one another, and the names of the innermost one.
_MOST_OPENED = 11
# No count above 64 makes a lattice.
_MOST_FIGURES = 2


def read_lattice(text):
    """The lattice whose label is the text; BadLattice if there is none."""
    row = _row_of_words(text)
    if len(row) != 1:
        raise BadLattice()
    lattice = _lattice_of(row[0])
    # So far a text with other blanks or other signs for a figure is read as well.
    if lattice.label != text:
        raise BadLattice()
    return lattice


def _row_of_words(text):
    """The text's words in their order, with a list for all that stands within a pair of parentheses."""
    rows = [[]]
    for word, _ in tokens_of(text):
        if word == "(":
            if len(rows) > _MOST_OPENED:
                raise BadLattice()
            rows.append([])
        elif word == ")":
            if len(rows) == 1:
                raise BadLattice()
            inner = rows.pop()
            rows[-1].append(inner)
        else:
            rows[-1].append(word)
    if len(rows) != 1:
        raise BadLattice()
    return rows[0]


def _lattice_of(row):
    if isinstance(row, list) and len(row) == 2:
        return _lattice_of_one(row[0], row[1])
    if isinstance(row, list) and len(row) == 3:
        return _lattice_of_two(row[0], row[1], row[2])
    raise BadLattice()


def _lattice_of_one(word, told):
    if word == "chain":
        return ChainLattice(_count(told))
    if word == "sets":
        return SetLattice(_count(told))
    if word == "turned":
        return TurnedLattice(_lattice_of(told))
    raise BadLattice()


def _lattice_of_two(word, first, second):
    if word == "order":
        return OrderLattice(_words(first), _pairs(second))
    if word == "downs":
        return DownLattice(_words(first), _pairs(second))
    if word == "pair":
        return PairLattice(_lattice_of(first), _lattice_of(second))
    raise BadLattice()


def _count(word):
    if not isinstance(word, str) or not word.isdecimal() or len(word) > _MOST_FIGURES:
        raise BadLattice()
    return int(word)


def _words(row):
    if not isinstance(row, list) or not all([isinstance(word, str) for word in row]):
        raise BadLattice()
    return row


def _pairs(row):
    words = _words(row)
    if len(words) % 2 != 0:
        raise BadLattice()
    return [(words[at], words[at + 1]) for at in range(0, len(words), 2)]
