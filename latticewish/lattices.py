"""The base class of all lattices, and lattices whose order is told by pairs of names."""

from latticewish.orders import check_order, has_place, masks_above, masks_below, order_label, place_of

# For lattices of one family and for those made of lattices.
MOST_VALUES = 64
_MOST_NAMES = 16


class Lattice:
    """What every lattice can be asked. Only the classes below it, which know their order, are made."""

    def __init__(self, label, size, bottom_at, top_at, depth=1):
        self.label = label
        self.size = size
        self.bottom_at = bottom_at
        self.top_at = top_at
        self.depth = depth

    def within_at(self, first, second):
        """Whether the value at place first lies within the one at place second."""
        raise NotImplementedError("a lattice class tells its own order")

    def join_at(self, first, second):
        """The place of the join, or None."""
        raise NotImplementedError("a lattice class tells its own joins")

    def meet_at(self, first, second):
        """The place of the meet, or None."""
        raise NotImplementedError("a lattice class tells its own meets")

    def name_at(self, place):
        """The name of the value at the place."""
        raise NotImplementedError("a lattice class tells its own names")

    def at_name(self, name):
        """The place of the value with the name; UnknownValue."""
        raise NotImplementedError("a lattice class tells its own names")

    def irreducibles(self):
        """The ascending list of the places of the irreducible values."""
        raise NotImplementedError("a lattice class tells its own irreducible values")


class OrderLattice(Lattice):
    """The named values, ordered as the pairs (lower name, upper name) tell; it need not be regular."""

    def __init__(self, names, pairs):
        check_order(names, pairs, _MOST_NAMES)
        self._names = list(names)
        self._below = masks_below(names, pairs)
        self._above = masks_above(self._below)
        everything = (1 << len(names)) - 1
        label = order_label("order", names, pairs)
        bottom_at = _first_place(self._above, everything)
        top_at = _first_place(self._below, everything)
        Lattice.__init__(self, label, len(names), bottom_at, top_at)
        self._irreducibles = irreducible_places(self)

    def within_at(self, first, second):
        """Whether the value at place first lies within the one at place second."""
        return has_place(self._above[first], second)

    def join_at(self, first, second):
        """The place of the join, or None; the first such place if a ring of pairs leads to several."""
        # An upper bound lies within all upper bounds just if these are all the values that are above it.
        return _first_place(self._above, self._above[first] & self._above[second])

    def meet_at(self, first, second):
        """The place of the meet, or None; the first such place if a ring of pairs leads to several."""
        return _first_place(self._below, self._below[first] & self._below[second])

    def name_at(self, place):
        """The name of the value at the place."""
        return self._names[place]

    def at_name(self, name):
        """The place of the value with the name; UnknownValue."""
        return place_of(self._names, name)

    def irreducibles(self):
        """The ascending list of the places that are neither the bottom's nor that of a join of two others."""
        return list(self._irreducibles)


def irreducible_places(lattice):
    """The irreducible values by their definition, for lattices that may be anything but regular."""
    joined = [False] * lattice.size
    for first in range(lattice.size):
        for second in range(first, lattice.size):
            place = lattice.join_at(first, second)
            if place not in (None, first, second):
                joined[place] = True
    return [place for place in range(lattice.size) if place != lattice.bottom_at and not joined[place]]


def _first_place(masks, mask):
    return masks.index(mask) if mask in masks else None
