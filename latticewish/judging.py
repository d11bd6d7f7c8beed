"""The judge of papers."""

from latticewish.checks import check_formula, check_state, irreducible_at
from latticewish.games import CHOOSES, Game, ranks_fall


def judge_paper(system, formula, state, name, paper):
    """Whether the paper shows that the irreducible value is, or is not, in the formula's value at the state.

    UnknownState, UnknownValue, NotIrreducible, then the errors of the formula: UnknownValue, UnboundName.
    """
    check_state(system, state)
    piece = irreducible_at(system.lattice, name)
    check_formula(system.lattice, formula, ())
    side, lines = paper
    if side not in CHOOSES:
        return False
    judge = Judge(Game(system, piece, formula), side, lines)
    return judge.is_in_order() and judge.begins_at(state) and judge.is_right_everywhere()


class Judge:
    """Goes through the lines of a paper whose side is one of the two."""

    def __init__(self, game, side, lines):
        self._game = game
        self._side = side
        self._lines = list(lines)
        self._ranks = {(state, place): ranks for state, place, ranks, _ in lines}
        self._spots = {spot.place: spot for spot in game.spots}

    def is_in_order(self):
        """Whether all states and places are there, and the lines ascend by them."""
        numbers = self._game.numbers
        before = (-1, ())
        for state, place, _, _ in self._lines:
            if state not in numbers or place not in self._spots:
                return False
            position = (numbers[state], place)
            if position <= before:
                return False
            before = position
        return True

    def begins_at(self, state):
        """Whether there is a line for the whole formula at the state."""
        return (state, ()) in self._ranks

    def is_right_everywhere(self):
        """Whether each line is right, beside the lines that it leads to."""
        return all([self._is_right(state, self._spots[place], ranks, choice)
                    for state, place, ranks, choice in self._lines])

    def _is_right(self, state, spot, ranks, choice):
        if len(ranks) != len(spot.around) or any([rank < 0 for rank in ranks]):
            return False
        if spot.word in CHOOSES[self._side]:
            chosen = [row for row in self._game.nexts(spot, state) if row[0] == choice]
            return len(chosen) == 1 and self._leads_on(spot, ranks, chosen)
        if choice is not None:
            return False
        if self._game.is_end(spot):
            return self._game.is_good(spot, state) == (self._side == "yes")
        return self._leads_on(spot, ranks, self._game.nexts(spot, state))

    def _leads_on(self, spot, ranks, nexts):
        for _, state, part in nexts:
            if (state, part.place) not in self._ranks:
                return False
            if not ranks_fall(self._side, spot, ranks, self._ranks[state, part.place]):
                return False
        return True
