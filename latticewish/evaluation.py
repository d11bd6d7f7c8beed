"""The values of formulas at the states of a system, and the rounds of least and greatest fixed points."""

from latticewish.boards import Board
from latticewish.checks import check_formula, check_state
from latticewish.formulas import BINDERS
from latticewish.spots import spots_of
from latticewish.truths import Value
from latticewish.working import Working


def values(system, formula):
    """For each state the name of the formula's value; UnknownValue, UnboundName."""
    check_formula(system.lattice, formula, ())
    board = Board(system, system.lattice.irreducibles())
    bits = Working(board).bits(spots_of(formula)[0])
    return {state: system.lattice.name_at(board.place_at(bits, state)) for state in system.states()}


def value_at(system, formula, state):
    """The formula's Value at the state; UnknownState, UnknownValue, UnboundName."""
    check_state(system, state)
    return Value.named(system.lattice, values(system, formula)[state])


def rounds(system, formula):
    """How many rounds of the outermost least or most change a value, 0 for other formulas; errors as for values."""
    check_formula(system.lattice, formula, ())
    if formula[0] not in BINDERS:
        return 0
    working = Working(Board(system, system.lattice.irreducibles()))
    working.bits(spots_of(formula)[0])
    return working.changes
