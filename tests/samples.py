"""Lattices that several tests use."""

from itertools import product

from latticewish.combined import PairLattice, TurnedLattice
from latticewish.families import ChainLattice, DownLattice, SetLattice
from latticewish.lattices import OrderLattice


def diamond():
    return OrderLattice(["lo", "a", "b", "hi"], [("lo", "a"), ("lo", "b"), ("a", "hi"), ("b", "hi")])


def three_beside():
    """Five values, three of them beside one another: joins and meets, but no spread."""
    pairs = [("o", "a"), ("o", "b"), ("o", "c"), ("a", "t"), ("b", "t"), ("c", "t")]
    return OrderLattice(["o", "a", "b", "c", "t"], pairs)


def pentagon():
    return OrderLattice(["o", "a", "b", "c", "t"], [("o", "a"), ("a", "b"), ("b", "t"), ("o", "c"), ("c", "t")])


def fork():
    """A bottom with two values above it: a join and the top are lacking."""
    return OrderLattice(["o", "a", "b"], [("o", "a"), ("o", "b")])


def roof():
    """A top with two values below it: a meet and the bottom are lacking."""
    return OrderLattice(["a", "b", "t"], [("a", "t"), ("b", "t")])


def loose():
    return OrderLattice(["a", "b"], [])


def ring():
    return OrderLattice(["a", "b"], [("a", "b"), ("b", "a")])


def double_cross():
    """Two values below, two above: joins and meets are lacking, and both ends."""
    return OrderLattice(["a", "b", "c", "d"], [("a", "c"), ("a", "d"), ("b", "c"), ("b", "d")])


def corner():
    """Two names that lie within a third one: five sets, which are neither a chain nor all sets of some marks."""
    return DownLattice(["a", "b", "c"], [("b", "a"), ("c", "a")])


def regular_samples():
    """At least one regular lattice of each class, and some in one another."""
    return [
        ChainLattice(1), ChainLattice(2), ChainLattice(4), SetLattice(1), SetLattice(3), corner(), diamond(),
        OrderLattice(["x"], []), PairLattice(ChainLattice(3), SetLattice(2)), PairLattice(diamond(), ChainLattice(2)),
        PairLattice(ChainLattice(1), ChainLattice(1)), TurnedLattice(ChainLattice(3)), TurnedLattice(corner()),
        TurnedLattice(TurnedLattice(diamond())), TurnedLattice(PairLattice(corner(), ChainLattice(2))),
        PairLattice(TurnedLattice(SetLattice(2)), PairLattice(ChainLattice(2), ChainLattice(1)))]


def irregular_samples():
    """Lattices that break at least one rule each."""
    return [fork(), roof(), loose(), ring(), double_cross(), three_beside(), pentagon()]


def orders_of_three():
    """Every OrderLattice of three names, by the pairs of different names that it is told."""
    told = ["a", "b", "c"]
    pairs = [(low, high) for low in told for high in told if low != high]
    for bits in product((0, 1), repeat=len(pairs)):
        yield OrderLattice(told, [pair for pair, bit in zip(pairs, bits) if bit])
