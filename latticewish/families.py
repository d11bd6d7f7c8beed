"""Lattices of one family each: chains, the sets of some marks, the downward closed sets of names."""

from latticewish.errors import BadLattice
from latticewish.lattices import MOST_VALUES, Lattice
from latticewish.orders import check_order, has_place, masks_below, order_label, place_of

# Six marks or names already make up to 64 sets.
_MOST_MARKS = 6


class ChainLattice(Lattice):
    """The integers from 0 to count - 1, each within all that are not less."""

    def __init__(self, count):
        _check_count(count, MOST_VALUES)
        self._names = [str(place) for place in range(count)]
        Lattice.__init__(self, f"(chain {count})", count, 0, count - 1)

    def within_at(self, first, second):
        """Whether the value at place first lies within the one at place second."""
        return first <= second

    def join_at(self, first, second):
        """The place of the join."""
        return second if first <= second else first

    def meet_at(self, first, second):
        """The place of the meet."""
        return first if first <= second else second

    def name_at(self, place):
        """The name of the value at the place."""
        return self._names[place]

    def at_name(self, name):
        """The place of the value with the name; UnknownValue."""
        return place_of(self._names, name)

    def irreducibles(self):
        """The ascending list of the places of the irreducible values."""
        return list(range(1, self.size))


class SetLattice(Lattice):
    """The sets of some of count marks; the bits of a place are the marks of its set."""

    def __init__(self, count):
        _check_count(count, _MOST_MARKS)
        size = 1 << count
        self._names = [f"{place:b}".zfill(count) for place in range(size)]
        Lattice.__init__(self, f"(sets {count})", size, 0, size - 1)

    def within_at(self, first, second):
        """Whether the value at place first lies within the one at place second."""
        return first & second == first

    def join_at(self, first, second):
        """The place of the join."""
        return first | second

    def meet_at(self, first, second):
        """The place of the meet."""
        return first & second

    def name_at(self, place):
        """The name of the value at the place."""
        return self._names[place]

    def at_name(self, name):
        """The place of the value with the name; UnknownValue."""
        return place_of(self._names, name)

    def irreducibles(self):
        """The ascending list of the places of the irreducible values: the sets of one mark."""
        return [place for place in range(1, self.size) if place & (place - 1) == 0]


class DownLattice(Lattice):
    """The sets of names that have with each name all names that lie within it."""

    def __init__(self, names, pairs):
        check_order(names, pairs, _MOST_MARKS)
        self._below = masks_below(names, pairs)
        # Two names lie within each other just if the same names lie within both.
        if len(set(self._below)) != len(names):
            raise BadLattice()
        self._masks = [mask for mask in range(1 << len(names)) if _is_down(mask, self._below)]
        self._names = [_set_name(mask, names) for mask in self._masks]
        label = order_label("downs", names, pairs)
        Lattice.__init__(self, label, len(self._masks), 0, len(self._masks) - 1)

    def within_at(self, first, second):
        """Whether the value at place first lies within the one at place second."""
        return self._masks[first] & self._masks[second] == self._masks[first]

    def join_at(self, first, second):
        """The place of the join."""
        return self._masks.index(self._masks[first] | self._masks[second])

    def meet_at(self, first, second):
        """The place of the meet."""
        return self._masks.index(self._masks[first] & self._masks[second])

    def name_at(self, place):
        """The name of the value at the place."""
        return self._names[place]

    def at_name(self, name):
        """The place of the value with the name; UnknownValue."""
        return place_of(self._names, name)

    def irreducibles(self):
        """The ascending list of the places of the irreducible values: one name with all that lie within it."""
        return [place for place in range(self.size) if self._masks[place] in self._below]


def _check_count(count, most):
    if not 1 <= count <= most:
        raise BadLattice()


def _is_down(mask, below):
    return all([mask & below[place] == below[place] for place in range(len(below)) if has_place(mask, place)])


def _set_name(mask, names):
    return "{" + ",".join([names[place] for place in range(len(names)) if has_place(mask, place)]) + "}"
