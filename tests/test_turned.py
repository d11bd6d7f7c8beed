"""Points 6 and 7 for TurnedLattice, and the depth of lattices made of lattices."""

import unittest

from latticewish.combined import PairLattice, TurnedLattice
from latticewish.errors import BadLattice, UnknownValue
from latticewish.families import ChainLattice, DownLattice, SetLattice
from latticewish.lattices import Lattice, OrderLattice
from tests.definitions import check_as_defined, check_regular, irreducibles, names
from tests.samples import (
    corner, diamond, fork, irregular_samples, orders_of_three, pentagon, regular_samples, roof, three_beside)


class Turned(unittest.TestCase):
    def check_turned(self, lattice, inner):
        self.assertIsInstance(lattice, Lattice)
        self.assertEqual(lattice.size, inner.size)
        self.assertEqual(lattice.label, f"(turned {inner.label})")
        self.assertEqual(names(lattice), names(inner))
        self.assertEqual((lattice.bottom_at, lattice.top_at), (inner.top_at, inner.bottom_at))
        for first in range(inner.size):
            for second in range(inner.size):
                self.assertIs(lattice.within_at(first, second), inner.within_at(second, first))
                self.assertEqual(lattice.join_at(first, second), inner.meet_at(first, second))
                self.assertEqual(lattice.meet_at(first, second), inner.join_at(first, second))
        check_as_defined(self, lattice)


class TestOrder(Turned):
    def test_chain(self):
        inner = ChainLattice(4)
        lattice = TurnedLattice(inner)
        self.assertIs(lattice.inner, inner)
        self.assertEqual((lattice.size, lattice.label), (4, "(turned (chain 4))"))
        self.assertEqual((lattice.bottom_at, lattice.top_at), (3, 0))
        self.assertEqual((lattice.join_at(1, 2), lattice.meet_at(1, 2)), (1, 2))
        self.assertIs(lattice.within_at(2, 1), True)
        self.assertIs(lattice.within_at(1, 2), False)
        self.assertIs(lattice.within_at(1, 1), True)
        self.assertEqual(lattice.irreducibles(), [0, 1, 2])
        self.check_turned(lattice, inner)

    def test_sets(self):
        lattice = TurnedLattice(SetLattice(3))
        self.assertEqual(lattice.irreducibles(), [3, 5, 6])
        self.assertEqual(names(lattice), names(SetLattice(3)))
        self.check_turned(lattice, SetLattice(3))

    def test_every_class(self):
        for inner in regular_samples():
            lattice = TurnedLattice(inner)
            self.check_turned(lattice, inner)
            self.assertEqual(lattice.irreducibles(), irreducibles(lattice))
            check_regular(self, lattice)

    def test_lacking(self):
        self.assertEqual(TurnedLattice(fork()).top_at, 0)
        self.assertIsNone(TurnedLattice(fork()).bottom_at)
        self.assertIsNone(TurnedLattice(fork()).meet_at(1, 2))
        self.assertEqual(TurnedLattice(fork()).join_at(1, 2), 0)
        self.assertEqual(TurnedLattice(roof()).bottom_at, 2)
        self.assertIsNone(TurnedLattice(roof()).top_at)
        self.assertIsNone(TurnedLattice(roof()).join_at(0, 1))
        for inner in irregular_samples():
            self.check_turned(TurnedLattice(inner), inner)
        for inner in orders_of_three():
            self.check_turned(TurnedLattice(inner), inner)

    def test_irreducibles_without_spread(self):
        self.assertEqual(TurnedLattice(three_beside()).irreducibles(), [1, 2, 3])
        self.assertEqual(TurnedLattice(pentagon()).irreducibles(), [1, 2, 3])
        upper = OrderLattice(["t", "p", "q", "r", "o"], [
            ("p", "t"), ("q", "p"), ("r", "p"), ("o", "q"), ("o", "r")])
        self.assertEqual(upper.irreducibles(), [0, 2, 3])
        self.assertEqual(TurnedLattice(upper).irreducibles(), [1, 2, 3])

    def test_one_value(self):
        for inner in (ChainLattice(1), OrderLattice(["a"], []), PairLattice(ChainLattice(1), ChainLattice(1))):
            lattice = TurnedLattice(inner)
            self.assertEqual((lattice.size, lattice.bottom_at, lattice.top_at), (1, 0, 0))
            self.assertEqual(lattice.irreducibles(), [])

    def test_sixty_four_values(self):
        lattice = TurnedLattice(SetLattice(6))
        self.assertEqual((lattice.size, lattice.bottom_at, lattice.top_at), (64, 63, 0))
        self.assertEqual(lattice.irreducibles(), [63 - 32, 63 - 16, 63 - 8, 63 - 4, 63 - 2, 63 - 1])

    def test_unknown_value(self):
        for name in ("", "a", "3", "(turned 1)", "-1", "01"):
            with self.assertRaises(UnknownValue) as caught:
                TurnedLattice(ChainLattice(3)).at_name(name)
            self.assertEqual(caught.exception.name, name)


class TestInOneAnother(Turned):
    def test_twice(self):
        for inner in regular_samples() + irregular_samples():
            once = TurnedLattice(inner)
            twice = TurnedLattice(once)
            self.check_turned(twice, once)
            self.assertEqual(twice.label, f"(turned (turned {inner.label}))")
            self.assertEqual((twice.bottom_at, twice.top_at), (inner.bottom_at, inner.top_at))
            for first in range(inner.size):
                for second in range(inner.size):
                    self.assertIs(twice.within_at(first, second), inner.within_at(first, second))
                    self.assertEqual(twice.join_at(first, second), inner.join_at(first, second))
        self.assertEqual(TurnedLattice(TurnedLattice(corner())).irreducibles(), corner().irreducibles())

    def test_of_a_pair(self):
        inner = PairLattice(ChainLattice(2), corner())
        lattice = TurnedLattice(inner)
        self.check_turned(lattice, inner)
        self.assertEqual(lattice.label, "(turned (pair (chain 2) (downs (a b c) (b a c a))))")
        self.assertEqual(lattice.at_name("<1/{b}>"), 6)
        self.assertEqual([lattice.name_at(k) for k in lattice.irreducibles()],
                         ["<0/{a,b,c}>", "<1/{b}>", "<1/{c}>", "<1/{b,c}>"])

    def test_a_pair_of_turned_lattices(self):
        lattice = PairLattice(TurnedLattice(ChainLattice(2)), ChainLattice(2))
        self.assertEqual((lattice.bottom_at, lattice.top_at), (2, 1))
        self.assertEqual(lattice.irreducibles(), [0, 3])
        check_as_defined(self, lattice)
        for first in (diamond(), three_beside(), fork()):
            pair = PairLattice(TurnedLattice(first), TurnedLattice(corner()))
            turned = TurnedLattice(PairLattice(first, corner()))
            for a in range(pair.size):
                for b in range(pair.size):
                    self.assertIs(pair.within_at(a, b), turned.within_at(a, b))


class TestDepth(unittest.TestCase):
    def turned(self, lattice, times):
        for _ in range(times):
            lattice = TurnedLattice(lattice)
        return lattice

    def test_turned(self):
        for first in (ChainLattice(2), SetLattice(1), DownLattice(["a"], []), diamond(), fork()):
            ten = self.turned(first, 9)
            self.assertEqual(ten.label, "(turned " * 9 + first.label + ")" * 9)
            with self.assertRaises(BadLattice):
                TurnedLattice(ten)

    def test_deeper_half_on_the_left(self):
        lattice = ChainLattice(2)
        for _ in range(9):
            lattice = PairLattice(lattice, ChainLattice(1))
        self.assertEqual((lattice.size, lattice.name_at(1)), (2, "<" * 9 + "1" + "/0>" * 9))
        with self.assertRaises(BadLattice):
            PairLattice(lattice, ChainLattice(1))

    def test_deeper_half_on_the_right(self):
        lattice = ChainLattice(2)
        for _ in range(9):
            lattice = PairLattice(ChainLattice(1), lattice)
        self.assertEqual((lattice.size, lattice.name_at(1)), (2, "<0/" * 9 + "1" + ">" * 9))
        with self.assertRaises(BadLattice):
            PairLattice(ChainLattice(1), lattice)

    def test_both_halves_deep(self):
        nine = self.turned(ChainLattice(2), 8)
        ten = self.turned(ChainLattice(2), 9)
        self.assertEqual(PairLattice(nine, nine).size, 4)
        for left, right in ((ten, ten), (ten, nine), (nine, ten), (ten, ChainLattice(1)), (ChainLattice(1), ten)):
            with self.assertRaises(BadLattice):
                PairLattice(left, right)

    def test_mixed(self):
        lattice = ChainLattice(2)
        for step in range(9):
            if step % 3 == 0:
                lattice = TurnedLattice(lattice)
            elif step % 3 == 1:
                lattice = PairLattice(lattice, ChainLattice(1))
            else:
                lattice = PairLattice(TurnedLattice(ChainLattice(1)), lattice)
        self.assertEqual(lattice.size, 2)
        check_as_defined(self, lattice)
        for left, right in ((lattice, ChainLattice(1)), (ChainLattice(1), lattice)):
            with self.assertRaises(BadLattice):
                PairLattice(left, right)
        with self.assertRaises(BadLattice):
            TurnedLattice(lattice)

    def test_the_deepest_decides_not_the_number(self):
        lattice = ChainLattice(1)
        for _ in range(9):
            lattice = PairLattice(lattice, lattice)
        self.assertEqual((lattice.size, lattice.label.count("chain")), (1, 512))
        with self.assertRaises(BadLattice):
            PairLattice(lattice, lattice)


if __name__ == "__main__":
    unittest.main()
