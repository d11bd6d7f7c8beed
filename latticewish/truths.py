"""Values: a lattice together with one of its places."""

from latticewish.errors import MixedLattices


class Value:
    """One value of a lattice; lattices with equal labels are the same lattice."""

    def __init__(self, lattice, place):
        self.lattice = lattice
        self.place = place
        self.name = lattice.name_at(place)

    @classmethod
    def named(cls, lattice, name):
        """The value with the name; UnknownValue."""
        return cls(lattice, lattice.at_name(name))

    @classmethod
    def bottom(cls, lattice):
        """The value that lies within all values."""
        return cls(lattice, lattice.bottom_at)

    @classmethod
    def top(cls, lattice):
        """The value that all values lie within."""
        return cls(lattice, lattice.top_at)

    @property
    def pieces(self):
        """The list of the names of the irreducible values within this one, ascending by places."""
        lattice = self.lattice
        return [lattice.name_at(place) for place in lattice.irreducibles() if lattice.within_at(place, self.place)]

    def __or__(self, other):
        """The join; MixedLattices."""
        _check_same_lattice(self, other)
        return Value(self.lattice, self.lattice.join_at(self.place, other.place))

    def __and__(self, other):
        """The meet; MixedLattices."""
        _check_same_lattice(self, other)
        return Value(self.lattice, self.lattice.meet_at(self.place, other.place))

    def __le__(self, other):
        """Whether this value lies within the other one; MixedLattices."""
        _check_same_lattice(self, other)
        return self.lattice.within_at(self.place, other.place)

    def __lt__(self, other):
        """Whether this value lies within the other one and is not the same value; MixedLattices."""
        _check_same_lattice(self, other)
        return self.place != other.place and self.lattice.within_at(self.place, other.place)

    def __eq__(self, other):
        """Whether lattices and places are the same; False for what is no value."""
        return isinstance(other, Value) and self.place == other.place and self.lattice.label == other.lattice.label

    def __str__(self):
        return str(self.name)

    def implies(self, other):
        """The greatest value whose meet with this one lies within the other one; MixedLattices."""
        _check_same_lattice(self, other)
        lattice = self.lattice
        # The joins of such values are such values again, since the lattice is regular.
        best = lattice.bottom_at
        for place in range(lattice.size):
            if lattice.within_at(lattice.meet_at(self.place, place), other.place):
                best = lattice.join_at(best, place)
        return Value(lattice, best)


def _check_same_lattice(first, second):
    if first.lattice.label != second.lattice.label:
        raise MixedLattices()
