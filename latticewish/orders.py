"""Names, and pairs that put some of them above others: what OrderLattice and DownLattice are given.

Many values at once are an integer here, a mask: bit k is set if the value at place k is among them.
"""

from latticewish.errors import BadLattice, UnknownValue

_SIGNS = "abcdefghijklmnopqrstuvwxyz0123456789"
_LONGEST = 12


def place_of(names, name):
    """The place of a name; UnknownValue if it is not among the names."""
    if name not in names:
        raise UnknownValue(name)
    return names.index(name)


def is_told_rightly(name):
    """Whether a name has the length and the characters that a name of a list must have."""
    return 1 <= len(name) <= _LONGEST and all([sign in _SIGNS for sign in name])


def check_order(names, pairs, most):
    """BadLattice unless there are 1 to `most` proper names, none twice, and the pairs have no other ones."""
    if not 1 <= len(names) <= most or len(set(names)) != len(names):
        raise BadLattice()
    if not all([is_told_rightly(name) for name in names]):
        raise BadLattice()
    for lower, upper in pairs:
        if lower not in names or upper not in names:
            raise BadLattice()


def masks_below(names, pairs):
    """For each place the mask of the places that lie within it, over rows of pairs of any length."""
    below = [1 << place for place in range(len(names))]
    for lower, upper in pairs:
        below[names.index(upper)] |= 1 << names.index(lower)
    # After each round all rows of pairs are counted whose inner steps are at the places looked at so far.
    for middle in range(len(names)):
        for place in range(len(names)):
            if has_place(below[place], middle):
                below[place] |= below[middle]
    return below


def masks_above(below):
    """For each place the mask of the places that it lies within."""
    places = range(len(below))
    return [sum([1 << upper for upper in places if has_place(below[upper], place)]) for place in places]


def has_place(mask, place):
    """Whether the place is in the mask."""
    return mask >> place & 1 == 1


def order_label(word, names, pairs):
    """The label of a lattice that is made of names and pairs."""
    written = " ".join(names)
    paired = " ".join([name for pair in pairs for name in pair])
    return f"({word} ({written}) ({paired}))"
