"""The positions that papers speak of: a state, and a place in the formula."""

from latticewish.slices import Slice
from latticewish.spots import spots_of

# Where each side chooses among the next positions.
CHOOSES = {"yes": ("or", "some"), "no": ("and", "all")}
# The binder at whose names the ranks of each side have to fall, since going on through them for ever is lost for it.
FALLING = {"yes": "least", "no": "most"}
_ENDS = ("true", "false", "value", "mark")


class Game:
    """The positions of a closed formula in a system, for one irreducible value."""

    def __init__(self, system, piece, formula):
        self._slice = Slice(system, piece)
        self.spots = spots_of(formula)
        # The positions of the states in the system.
        self.numbers = {state: number for number, state in enumerate(system.states())}

    def is_end(self, spot):
        """Whether no position follows the spot's positions, at any state."""
        return spot.word in _ENDS

    def is_good(self, spot, state):
        """Whether the end is good for the side "yes"."""
        if spot.word == "value":
            return self._slice.has_value(spot.told)
        if spot.word == "mark":
            return self._slice.has_mark(spot.told, state)
        return spot.word == "true"

    def nexts(self, spot, state):
        """The list of the next positions, each as a tuple: the choice that leads to it, its state and its spot."""
        if spot.word == "name":
            return [(None, state, spot.around[spot.level].parts[0])]
        if spot.word in ("some", "all"):
            return [(end, end, spot.parts[0]) for end in self._slice.ends(spot.word, state)]
        if spot.word in ("and", "or"):
            return [(number, state, part) for number, part in enumerate(spot.parts)]
        return [(None, state, part) for part in spot.parts]


def ranks_fall(side, spot, before, behind):
    """Whether the ranks before, at the spot, and those behind, at a next position, are as the side needs them."""
    if spot.word != "name":
        return behind[:len(before)] <= before
    count = spot.level + 1
    if spot.around[spot.level].word == FALLING[side]:
        return behind[:count] < before[:count]
    return behind[:count] <= before[:count]
