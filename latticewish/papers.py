"""Papers: for each side the strategy that shows it to be right."""

from latticewish.boards import Board
from latticewish.checks import check_formula, check_state, irreducible_at
from latticewish.formulas import BINDERS
from latticewish.games import CHOOSES, FALLING, Game, ranks_fall
from latticewish.working import Working


def paper_of(system, formula, state, name):
    """A paper on whether the irreducible value is in the formula's value at the state; errors as for judge_paper."""
    check_state(system, state)
    piece = irreducible_at(system.lattice, name)
    check_formula(system.lattice, formula, ())
    game = Game(system, piece, formula)
    board = Board(system, [piece])
    in_value = board.mask_at(Working(board).bits(game.spots[0]), state) == 1
    side = "yes" if in_value else "no"
    ranking = Ranking(board, system.states(), side)
    ranking.rank(game.spots[0], ())
    return side, _lines(game, side, ranking.ranks, state)


class Ranking:
    """For each position that a side holds, the least ranks.

    A rank is the number of a round, for a binder at whose names the ranks have to fall. The position is held while
    the names of these binders have the values of these rounds, and the other names those of their fixed points. Going
    through such a name leads to the round before; and what is held in a round is so by next positions that are held
    in the same rounds. So the least ranks fall where they have to, and grow nowhere.
    """

    def __init__(self, board, states, side):
        self._board = board
        self._states = list(states)
        self._side = side
        self._working = Working(board)
        self._seen = {}
        self.ranks = {}

    def rank(self, spot, ranks):
        """Ranks the spot and all places in it, ranks being the present rounds of the binders around it."""
        seen = (spot, self._working.context(spot))
        if seen in self._seen:
            return
        self._seen[seen] = True
        bits = self._working.bits(spot)
        for state in self._states:
            if (self._board.mask_at(bits, state) == 1) == (self._side == "yes"):
                # The ranks come in ascending order.
                self.ranks.setdefault((state, spot.place), ranks)
        if spot.word in BINDERS:
            self._rank_inside(spot, ranks, bits)
        else:
            for part in spot.parts:
                self.rank(part, ranks)

    def _rank_inside(self, spot, ranks, bits):
        found = self._working.rounds_of(spot) if spot.word == FALLING[self._side] else [bits]
        for number, values in enumerate(found):
            self._working.set_name(spot, values)
            self.rank(spot.parts[0], ranks + (number,))


def _lines(game, side, ranks, state):
    """The lines for the positions that can come from the whole formula at the state."""
    choices = {}
    waiting = [(state, game.spots[0])]
    while waiting:
        at, spot = waiting.pop()
        if (at, spot.place) not in choices:
            nexts = game.nexts(spot, at)
            choices[at, spot.place] = None
            if spot.word in CHOOSES[side]:
                nexts = _first_held(side, ranks, at, spot, nexts)
                choices[at, spot.place] = nexts[0][0]
            for _, end, part in nexts:
                waiting.append((end, part))
    return [(at, spot.place, ranks[at, spot.place], choices[at, spot.place])
            for at in game.numbers for spot in game.spots if (at, spot.place) in choices]


def _first_held(side, ranks, at, spot, nexts):
    """The list of the one next position that the side chooses."""
    before = ranks[at, spot.place]
    held = [row for row in nexts if (row[1], row[2].place) in ranks]
    return [row for row in held if ranks_fall(side, spot, before, ranks[row[1], row[2].place])][:1]
