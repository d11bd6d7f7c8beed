"""Point 1: arguments stay as they were, nothing that was handed in is kept, a returned list is the caller's."""

import unittest

from latticewish.combined import PairLattice, TurnedLattice
from latticewish.errors import BadLattice, UnknownValue
from latticewish.families import ChainLattice, DownLattice, SetLattice
from latticewish.faults import first_fault
from latticewish.labels import read_lattice
from latticewish.lattices import OrderLattice
from tests.definitions import names

NAMES = ["a", "b", "c"]
PAIRS = [("a", "b"), ("a", "c"), ("a", "a")]


def several():
    """A lattice of each class, each with at least one irreducible value."""
    first = OrderLattice(["o", "a"], [("o", "a")])
    second = DownLattice(NAMES, PAIRS)
    return (ChainLattice(4), SetLattice(2), second, first, PairLattice(first, second), TurnedLattice(second),
            read_lattice("(pair (turned (chain 2)) (sets 1))"))


def everything(lattice):
    places = range(lattice.size)
    return (
        lattice.size, lattice.label, lattice.bottom_at, lattice.top_at, names(lattice),
        [lattice.at_name(name) for name in names(lattice)], list(lattice.irreducibles()),
        [(lattice.within_at(a, b), lattice.join_at(a, b), lattice.meet_at(a, b)) for a in places for b in places])


class TestArguments(unittest.TestCase):
    def test_arguments_stay(self):
        for made in (OrderLattice, DownLattice):
            told, pairs = list(NAMES), list(PAIRS)
            everything(made(told, pairs))
            self.assertEqual((told, pairs), (NAMES, PAIRS))

    def test_arguments_stay_when_they_are_bad(self):
        for made in (OrderLattice, DownLattice):
            for bad in ([], ["b", "a", "b"], ["z", "B"], ["a"], [str(k) for k in range(20)]):
                told, pairs = list(bad), [("b", "a"), ("a", "b")]
                with self.assertRaises(BadLattice):
                    made(told, pairs)
                self.assertEqual((told, pairs), (bad, [("b", "a"), ("a", "b")]))

    def test_changed_afterwards(self):
        for made in (OrderLattice, DownLattice):
            told, pairs = list(NAMES), list(PAIRS)
            lattice = made(told, pairs)
            before = everything(lattice)
            told[0] = "x"
            told.append("y")
            pairs.clear()
            self.assertEqual(everything(lattice), before)
            told.clear()
            pairs.append(("c", "b"))
            self.assertEqual(everything(lattice), before)

    def test_two_lattices_from_the_same_lists(self):
        told, pairs = list(NAMES), list(PAIRS)
        first = OrderLattice(told, pairs)
        before = everything(first)
        told.append("d")
        pairs.append(("b", "d"))
        second = OrderLattice(told, pairs)
        self.assertEqual(second.size, 4)
        self.assertEqual(everything(first), before)


class TestAnswers(unittest.TestCase):
    def test_returned_list_is_the_callers(self):
        for lattice in several():
            before = everything(lattice)
            self.assertIsInstance(lattice.irreducibles(), list)
            answer = lattice.irreducibles()
            answer.append(99)
            answer[0] = 77
            self.assertEqual(everything(lattice), before)
            lattice.irreducibles().clear()
            self.assertEqual(everything(lattice), before)

    def test_asking_changes_nothing(self):
        for lattice in several():
            before = everything(lattice)
            with self.assertRaises(UnknownValue):
                lattice.at_name("nobody")
            self.assertIsNone(first_fault(lattice))
            self.assertEqual(everything(lattice), before)

    def test_lattices_inside_stay(self):
        left, right = OrderLattice(NAMES, PAIRS), ChainLattice(3)
        before = everything(left), everything(right)
        made = PairLattice(left, right), TurnedLattice(left), TurnedLattice(PairLattice(right, left))
        for lattice in made:
            everything(lattice)
            first_fault(lattice)
        self.assertEqual((everything(left), everything(right)), before)
        first = [everything(lattice) for lattice in made]
        left.irreducibles().append(9)
        right.irreducibles().clear()
        self.assertEqual([everything(lattice) for lattice in made], first)

    def test_lists_of_a_lattice_inside_changed_afterwards(self):
        told, pairs = list(NAMES), list(PAIRS)
        inner = OrderLattice(told, pairs)
        made = PairLattice(inner, ChainLattice(2)), TurnedLattice(inner)
        before = [everything(lattice) for lattice in made]
        told.clear()
        pairs.append(("c", "b"))
        self.assertEqual([everything(lattice) for lattice in made], before)


if __name__ == "__main__":
    unittest.main()
