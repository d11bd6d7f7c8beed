"""What the functions over systems look at first: the state, the irreducible value, the formula."""

from latticewish.errors import NotIrreducible, UnboundName, UnknownState
from latticewish.formulas import BINDERS, parts_of


def check_state(system, state):
    """UnknownState if the system has no such state."""
    if state not in system.states():
        raise UnknownState(state)


def irreducible_at(lattice, name):
    """The place of the irreducible value with the name; UnknownValue, NotIrreducible."""
    place = lattice.at_name(name)
    if place not in lattice.irreducibles():
        raise NotIrreducible(name)
    return place


def check_formula(lattice, formula, bound):
    """UnknownValue and UnboundName, a formula before its parts; the names in the tuple count as bound."""
    word = formula[0]
    if word == "value":
        lattice.at_name(formula[1])
    if word == "name" and formula[1] not in bound:
        raise UnboundName(formula[1])
    if word in BINDERS:
        bound = bound + (formula[1],)
    for part in parts_of(formula):
        check_formula(lattice, part, bound)
