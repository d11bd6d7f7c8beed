"""Systems: states, marks that have values at them, and arrows between them with two values each."""

from latticewish.errors import BadName, TwiceTold, UnknownState
from latticewish.formulas import is_name
from latticewish.truths import Value


class System:
    """States with marks and arrows, whose values are those of one lattice."""

    def __init__(self, lattice, states, marks, arrows):
        known = _known_states(states)
        self.lattice = lattice
        self._states = list(states)
        self._marks = list(marks)
        self._arrows = list(arrows)
        self._places = _places_of_marks(lattice, known, marks)
        self._rows = _rows_of_arrows(lattice, known, arrows)

    def states(self):
        """The list of the states, as given."""
        return list(self._states)

    def marks(self):
        """The list of the tuples (mark, state, name of a value), as given."""
        return list(self._marks)

    def arrows(self):
        """The list of the tuples (from, to, has, lacks), as given."""
        return list(self._arrows)

    def mark_at(self, mark, state):
        """The Value of the mark at the state, the bottom if it is not told there; UnknownState."""
        if state not in self._rows:
            raise UnknownState(state)
        return Value(self.lattice, self._places.get((mark, state), self.lattice.bottom_at))

    def arrows_from(self, state):
        """The list of the tuples (to, has, lacks) of the state's arrows, with Values; UnknownState."""
        if state not in self._rows:
            raise UnknownState(state)
        lattice = self.lattice
        return [(end, Value(lattice, has), Value(lattice, lacks)) for end, has, lacks in self._rows[state]]


def _known_states(states):
    known = {}
    for state in states:
        if not is_name(state):
            raise BadName(state)
        if state in known:
            raise TwiceTold(state)
        known[state] = True
    return known


def _places_of_marks(lattice, known, marks):
    """The places of the marks' values, by mark and state."""
    places = {}
    for mark, state, name in marks:
        if not is_name(mark):
            raise BadName(mark)
        if state not in known:
            raise UnknownState(state)
        place = lattice.at_name(name)
        if (mark, state) in places:
            raise TwiceTold(mark)
        places[mark, state] = place
    return places


def _rows_of_arrows(lattice, known, arrows):
    """For each state the row of its arrows: where each leads, and the places of has and lacks."""
    rows = {state: [] for state in known}
    told = {}
    for start, end, has, lacks in arrows:
        for state in (start, end):
            if state not in known:
                raise UnknownState(state)
        arrow = (end, lattice.at_name(has), lattice.at_name(lacks))
        if (start, end) in told:
            raise TwiceTold(start)
        told[start, end] = True
        rows[start].append(arrow)
    return rows
