"""Systems and formulas that several tests use."""

from random import Random

from latticewish.combined import PairLattice, TurnedLattice
from latticewish.families import ChainLattice, SetLattice
from latticewish.systems import System
from tests.samples import corner, diamond


def every_class():
    """Small regular lattices of each class."""
    return [ChainLattice(2), ChainLattice(4), SetLattice(2), corner(), diamond(), TurnedLattice(ChainLattice(3)),
            PairLattice(ChainLattice(2), corner()), TurnedLattice(PairLattice(ChainLattice(2), SetLattice(1))),
            ChainLattice(1)]


def bottom(lattice):
    return lattice.name_at(lattice.bottom_at)


def top(lattice):
    return lattice.name_at(lattice.top_at)


def row(lattice, many, ring=False):
    """States one behind the other, the mark m at the last one; each arrow is wholly there and lacks nowhere."""
    states = [f"s{k}" for k in range(many)]
    pairs = list(zip(states, states[1:])) + ([(states[-1], states[0])] if ring and states else [])
    return System(lattice, states, [("m", states[-1], top(lattice))],
                  [(start, end, top(lattice), bottom(lattice)) for start, end in pairs])


def any_name(dice, lattice):
    """The name of a value, the bottom and the top more often than the others."""
    if dice.random() < 0.4:
        return dice.choice([bottom(lattice), top(lattice)])
    return lattice.name_at(dice.randrange(lattice.size))


def any_system(dice, lattice, many, shape="any"):
    """A system of any kind, or one whose arrows are at least a row or a ring."""
    states = [f"s{k}" for k in range(many)]
    dice.shuffle(states)
    marks = [(mark, state, any_name(dice, lattice)) for mark in ("m", "n") for state in states if dice.random() < 0.6]
    dice.shuffle(marks)
    pairs = [(start, end) for start in states for end in states if dice.random() < 1.2 / many]
    if shape != "any":
        pairs = list(zip(states, states[1:])) + ([(states[-1], states[0])] if shape == "ring" and states else [])
    dice.shuffle(pairs)
    arrows = [(start, end, any_name(dice, lattice), any_name(dice, lattice)) for start, end in pairs]
    if shape != "any":
        arrows = [(start, end, top(lattice) if dice.random() < 0.7 else has,
                   bottom(lattice) if dice.random() < 0.7 else lacks) for start, end, has, lacks in arrows]
    return System(lattice, states, marks, arrows)


def any_formula(dice, lattice, deep, names=(), binders=4):
    """A closed formula, or one whose free names are among the names; with at most so many binders in one another."""
    if deep <= 1:
        ends = [("mark", "m"), ("mark", "n"), ("value", any_name(dice, lattice)), ("true",), ("false",), ("mark", "k")]
        return ("name", dice.choice(names)) if names and dice.random() < 0.7 else dice.choice(ends)
    kind = dice.random()
    if binders and kind < 0.35:
        name = dice.choice("xyzw")
        return dice.choice(("least", "most")), name, any_formula(dice, lattice, deep - 1, names + (name,), binders - 1)
    if kind < 0.65:
        return dice.choice(("some", "all")), any_formula(dice, lattice, deep - 1, names, binders)
    parts = [any_formula(dice, lattice, deep - dice.choice((1, 1, 2)), names, binders) for _ in range(2)]
    return (dice.choice(("and", "or")), *parts)


def any_nested(dice, lattice, binders, deep=4):
    """A formula that begins with so many binders in one another, of all of which names are told inside."""
    names = tuple("abcd"[:binders])
    parts = [any_formula(dice, lattice, deep, names, 0) for _ in range(2)] + [("some", ("name", "a"))]
    formula = ("or", ("and", parts[0], ("name", names[-1])), ("and", parts[1], parts[2]))
    for name in reversed(names):
        formula = (dice.choice(("least", "most")), name, formula)
        if dice.random() < 0.3:
            formula = (dice.choice(("some", "all")), formula)
    return formula


def dice(number):
    return Random(number)
