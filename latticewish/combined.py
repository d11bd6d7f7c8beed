"""Lattices made of lattices: the pairs of values of two lattices, and a lattice with its order turned."""

from latticewish.errors import BadLattice
from latticewish.lattices import MOST_VALUES, Lattice, irreducible_places
from latticewish.orders import place_of

_MOST_DEPTH = 10


class PairLattice(Lattice):
    """The pairs of a value of left and one of right, ordered half by half."""

    def __init__(self, left, right):
        size = left.size * right.size
        depth = 1 + (left.depth if left.depth > right.depth else right.depth)
        _check_measures(size, depth)
        self.left = left
        self.right = right
        lefts = [left.name_at(place) for place in range(left.size)]
        rights = [right.name_at(place) for place in range(right.size)]
        self._names = [f"<{one}/{other}>" for one in lefts for other in rights]
        bottom_at = self._place_of_both(left.bottom_at, right.bottom_at)
        top_at = self._place_of_both(left.top_at, right.top_at)
        Lattice.__init__(self, f"(pair {left.label} {right.label})", size, bottom_at, top_at, depth)
        self._irreducibles = irreducible_places(self)

    def within_at(self, first, second):
        """Whether the value at place first lies within the one at place second."""
        count = self.right.size
        if not self.left.within_at(first // count, second // count):
            return False
        return self.right.within_at(first % count, second % count)

    def join_at(self, first, second):
        """The place of the join, or None."""
        count = self.right.size
        left = self.left.join_at(first // count, second // count)
        return self._place_of_both(left, self.right.join_at(first % count, second % count))

    def meet_at(self, first, second):
        """The place of the meet, or None."""
        count = self.right.size
        left = self.left.meet_at(first // count, second // count)
        return self._place_of_both(left, self.right.meet_at(first % count, second % count))

    def name_at(self, place):
        """The name of the value at the place."""
        return self._names[place]

    def at_name(self, name):
        """The place of the value with the name; UnknownValue."""
        return place_of(self._names, name)

    def irreducibles(self):
        """The ascending list of the places of the irreducible values."""
        return list(self._irreducibles)

    def _place_of_both(self, left, right):
        # A pair has a bottom, a top, a join or a meet just if both halves have one.
        if left is None or right is None:
            return None
        return left * self.right.size + right


class TurnedLattice(Lattice):
    """The values, names and places of inner; a value lies within those that lay within it."""

    def __init__(self, inner):
        depth = 1 + inner.depth
        _check_measures(inner.size, depth)
        self.inner = inner
        Lattice.__init__(self, f"(turned {inner.label})", inner.size, inner.top_at, inner.bottom_at, depth)
        self._irreducibles = irreducible_places(self)

    def within_at(self, first, second):
        """Whether the value at place first lies within the one at place second."""
        return self.inner.within_at(second, first)

    def join_at(self, first, second):
        """The place of the join, or None."""
        return self.inner.meet_at(first, second)

    def meet_at(self, first, second):
        """The place of the meet, or None."""
        return self.inner.join_at(first, second)

    def name_at(self, place):
        """The name of the value at the place."""
        return self.inner.name_at(place)

    def at_name(self, name):
        """The place of the value with the name; UnknownValue."""
        return self.inner.at_name(name)

    def irreducibles(self):
        """The ascending list of the places of the irreducible values of the turned order."""
        return list(self._irreducibles)


def _check_measures(size, depth):
    if size > MOST_VALUES or depth > _MOST_DEPTH:
        raise BadLattice()
