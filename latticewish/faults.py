"""The first rule of regular lattices that a lattice breaks, and the values that show it."""


def first_fault(lattice):
    """None if the lattice is regular, otherwise a tuple: the rule's name, and the tuple of the values' names."""
    places = range(lattice.size)
    # In the order of places: the first value decides first, then the second, then the third.
    pairs = [(first, second) for first in places for second in places]
    for first, second in pairs:
        if first != second and lattice.within_at(first, second) and lattice.within_at(second, first):
            return _told(lattice, "order", (first, second))
    for first, second in pairs:
        if lattice.join_at(first, second) is None:
            return _told(lattice, "join", (first, second))
    for first, second in pairs:
        if lattice.meet_at(first, second) is None:
            return _told(lattice, "meet", (first, second))
    for first, second in pairs:
        for third in places:
            if not _spreads(lattice, first, second, third):
                return _told(lattice, "spread", (first, second, third))
    return None


def _spreads(lattice, first, second, third):
    whole = lattice.meet_at(first, lattice.join_at(second, third))
    return whole == lattice.join_at(lattice.meet_at(first, second), lattice.meet_at(first, third))


def _told(lattice, rule, places):
    return rule, tuple([lattice.name_at(place) for place in places])
