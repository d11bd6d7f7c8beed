"""What one irreducible value sees of a system: the marks and the arrows that count for it."""


class Slice:
    """A system's marks and arrows for one irreducible value."""

    def __init__(self, system, piece):
        lattice = system.lattice
        self._within = {}
        for place in range(lattice.size):
            self._within[lattice.name_at(place)] = lattice.within_at(piece, place)
        self._marks = {}
        for mark, state, name in system.marks():
            self._marks[mark, state] = self._within[name]
        self._ends = {}
        for state in system.states():
            self._ends["some", state] = []
            self._ends["all", state] = []
        for start, end, has, lacks in system.arrows():
            if self._within[has]:
                self._ends["some", start].append(end)
            if not self._within[lacks]:
                self._ends["all", start].append(end)

    def has_value(self, name):
        """Whether the irreducible value lies within the value with the name."""
        return self._within[name]

    def has_mark(self, mark, state):
        """Whether the irreducible value lies within the mark's value at the state."""
        return self._marks.get((mark, state), False)

    def ends(self, word, state):
        """Where the arrows lead that count for (some a) or for (all a) at the state, in the told order."""
        return list(self._ends[word, state])
