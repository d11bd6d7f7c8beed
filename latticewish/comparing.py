"""States compared: which formulas have less at one state than at another, and states at which all have the same."""

from latticewish.checks import check_state, irreducible_at
from latticewish.differences import Differences
from latticewish.systems import System
from latticewish.truths import Value


def below(system, first, second):
    """None if each formula's value at first lies within that at second, otherwise a tuple that shows one.

    The tuple has a formula without value, least, most and name, and the name of an irreducible value that lies within
    the formula's value at first and not within that at second. UnknownState, for first, then for second.
    """
    check_state(system, first)
    check_state(system, second)
    lattice = system.lattice
    for piece in lattice.irreducibles():
        differences = Differences(system, piece)
        if differences.has(first, second):
            return differences.formula(first, second), lattice.name_at(piece)
    return None


def alike(system, first, second):
    """Whether each formula has the same value at both states; UnknownState."""
    return below(system, first, second) is None and below(system, second, first) is None


def matched(system, name):
    """The list of the pairs of states that no formula tells apart for the irreducible value.

    It lies within the value at the second one of every formula without value for which it does so at the first one.
    UnknownValue, NotIrreducible.
    """
    differences = Differences(system, irreducible_at(system.lattice, name))
    states = system.states()
    return [(first, second) for first in states for second in states if not differences.has(first, second)]


def degree(system, first, second):
    """The greatest Value whose meet with each formula's value at first lies within that at second; UnknownState."""
    check_state(system, first)
    check_state(system, second)
    lattice = system.lattice
    pieces = lattice.irreducibles()
    against = [piece for piece in pieces if Differences(system, piece).has(first, second)]
    greatest = Value.bottom(lattice)
    for piece in pieces:
        # A value that has an irreducible value within it that speaks against it is too great.
        if not any([lattice.within_at(other, piece) for other in against]):
            greatest = greatest | Value(lattice, piece)
    return greatest


def groups(system):
    """The list of the groups of states that are alike, in the system's order."""
    every = [Differences(system, piece) for piece in system.lattice.irreducibles()]
    rows = []
    for state in system.states():
        known = [row for row in rows if _are_alike(every, row[0], state)]
        if known:
            known[0].append(state)
        else:
            rows.append([state])
    return rows


def _are_alike(every, first, second):
    return not any([differences.has(first, second) or differences.has(second, first) for differences in every])


def folded(system):
    """The system with the first state of each group alone, and an arrow for all arrows from it into a group."""
    rows = groups(system)
    starts = [row[0] for row in rows]
    marks = [told for told in system.marks() if told[1] in starts]
    arrows = []
    for start in starts:
        for row in rows:
            into = [arrow for arrow in system.arrows_from(start) if arrow[0] in row]
            if into:
                arrows.append((start, row[0], _join_of_has(into), _meet_of_lacks(into)))
    return System(system.lattice, starts, marks, arrows)


def _join_of_has(arrows):
    joined = arrows[0][1]
    for _, has, _ in arrows:
        joined = joined | has
    return joined.name


def _meet_of_lacks(arrows):
    met = arrows[0][2]
    for _, _, lacks in arrows:
        met = met & lacks
    return met.name
