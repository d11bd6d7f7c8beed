"""Maps from lattice to lattice, and what they make of systems and formulas; systems turned around."""

from latticewish.checks import irreducible_at
from latticewish.combined import TurnedLattice
from latticewish.errors import BadMap, MixedLattices
from latticewish.families import ChainLattice
from latticewish.formulas import parts_of, with_parts
from latticewish.systems import System
from latticewish.truths import Value


class LatticeMap:
    """A value of the target for each value of the source; images are their names, in the order of the places."""

    def __init__(self, source, target, images):
        if len(images) != source.size:
            raise BadMap()
        self.source = source
        self.target = target
        self._places = [target.at_name(name) for name in images]

    @classmethod
    def same(cls, lattice):
        """The map that leads each value to itself."""
        return cls(lattice, lattice, [lattice.name_at(place) for place in range(lattice.size)])

    @classmethod
    def cut(cls, lattice, name):
        """The map to 0 and 1 that leads to 1 what the irreducible value lies within; UnknownValue, NotIrreducible."""
        piece = irreducible_at(lattice, name)
        images = ["1" if lattice.within_at(piece, place) else "0" for place in range(lattice.size)]
        return cls(lattice, ChainLattice(2), images)

    def image(self, name):
        """The name of the image of the value with the name; UnknownValue."""
        return self.target.name_at(self._places[self.source.at_name(name)])

    def fault(self):
        """None, or a tuple: the first of bottom, top, join, meet that is not led to its like, and the values' names."""
        source = self.source
        target = self.target
        if self._places[source.bottom_at] != target.bottom_at:
            return "bottom", ()
        if self._places[source.top_at] != target.top_at:
            return "top", ()
        pairs = [(first, second) for first in range(source.size) for second in range(source.size)]
        for first, second in pairs:
            led = target.join_at(self._places[first], self._places[second])
            if self._places[source.join_at(first, second)] != led:
                return "join", (source.name_at(first), source.name_at(second))
        for first, second in pairs:
            led = target.meet_at(self._places[first], self._places[second])
            if self._places[source.meet_at(first, second)] != led:
                return "meet", (source.name_at(first), source.name_at(second))
        return None

    def __call__(self, value):
        """The image of a Value; MixedLattices."""
        if value.lattice.label != self.source.label:
            raise MixedLattices()
        return Value(self.target, self._places[value.place])

    def __mul__(self, other):
        """The map that applies the other one first; MixedLattices."""
        if other.target.label != self.source.label:
            raise MixedLattices()
        names = [other.source.name_at(place) for place in range(other.source.size)]
        return LatticeMap(other.source, self.target, [self.image(other.image(name)) for name in names])

    def __eq__(self, other):
        """Whether source, target and all images are the same; False for what is no map."""
        if not isinstance(other, LatticeMap):
            return False
        if self.source.label != other.source.label or self.target.label != other.target.label:
            return False
        return self._places == other._places


def carried(m, system):
    """The system over the map's target with the images of all values; MixedLattices."""
    if m.source.label != system.lattice.label:
        raise MixedLattices()
    marks = [(mark, state, m.image(name)) for mark, state, name in system.marks()]
    arrows = [(start, end, m.image(has), m.image(lacks)) for start, end, has, lacks in system.arrows()]
    return System(m.target, system.states(), marks, arrows)


def carried_formula(m, formula):
    """The formula with the images of all its values; UnknownValue."""
    if formula[0] == "value":
        return "value", m.image(formula[1])
    parts = []
    for part in parts_of(formula):
        parts.append(carried_formula(m, part))
    return with_parts(formula, parts)


def turned(system):
    """The system over the turned lattice, has and lacks exchanged, marks told at all states; BadLattice."""
    lattice = TurnedLattice(system.lattice)
    # What was the bottom without being told would not be the bottom of the turned lattice.
    lowest = lattice.name_at(system.lattice.bottom_at)
    marks = system.marks()
    told = {(mark, state): True for mark, state, _ in marks}
    rows = {mark: True for mark, _, _ in marks}
    others = [(mark, state, lowest) for mark in rows for state in system.states() if (mark, state) not in told]
    arrows = [(start, end, lacks, has) for start, end, has, lacks in system.arrows()]
    return System(lattice, system.states(), marks + others, arrows)
