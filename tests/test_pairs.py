"""Points 6 and 7 for PairLattice."""

import unittest

from latticewish.combined import PairLattice, TurnedLattice
from latticewish.errors import BadLattice, UnknownValue
from latticewish.families import ChainLattice, DownLattice, SetLattice
from latticewish.lattices import Lattice, OrderLattice
from tests.definitions import check_as_defined, check_regular, irreducibles, names
from tests.samples import (
    corner, diamond, double_cross, fork, irregular_samples, loose, orders_of_three, pentagon, regular_samples, roof,
    three_beside)


class Pairs(unittest.TestCase):
    def check_halves(self, lattice, left, right):
        """Size, label, places, names and order as point 6 tells them, the rest from the order."""
        self.assertIsInstance(lattice, Lattice)
        self.assertEqual(lattice.size, left.size * right.size)
        self.assertEqual(lattice.label, f"(pair {left.label} {right.label})")
        halves = [(a, b) for a in range(left.size) for b in range(right.size)]
        for place, (a, b) in enumerate(halves):
            self.assertEqual(place, a * right.size + b)
            self.assertEqual(lattice.name_at(place), f"<{left.name_at(a)}/{right.name_at(b)}>")
            for other, (c, d) in enumerate(halves):
                within = left.within_at(a, c) and right.within_at(b, d)
                self.assertIs(lattice.within_at(place, other), within)
        check_as_defined(self, lattice)

    def check_bad(self, left, right):
        with self.assertRaises(BadLattice):
            PairLattice(left, right)


class TestRegular(Pairs):
    def test_two_different_lattices(self):
        left, right = ChainLattice(3), SetLattice(2)
        lattice = PairLattice(left, right)
        self.assertIs(lattice.left, left)
        self.assertIs(lattice.right, right)
        self.assertEqual(lattice.size, 12)
        self.assertEqual(lattice.label, "(pair (chain 3) (sets 2))")
        self.assertEqual((lattice.bottom_at, lattice.top_at), (0, 11))
        self.assertEqual(names(lattice)[:5], ["<0/00>", "<0/01>", "<0/10>", "<0/11>", "<1/00>"])
        self.assertEqual(lattice.at_name("<2/01>"), 9)
        self.assertEqual((lattice.join_at(5, 2), lattice.meet_at(5, 2)), (7, 0))
        self.assertIs(lattice.within_at(5, 9), True)
        self.assertIs(lattice.within_at(5, 2), False)
        self.assertIs(lattice.within_at(2, 5), False)
        self.assertEqual(lattice.irreducibles(), [1, 2, 4, 8])
        self.check_halves(lattice, left, right)
        check_regular(self, lattice)

    def test_the_halves_are_not_exchanged(self):
        left, right = SetLattice(2), ChainLattice(3)
        lattice = PairLattice(left, right)
        self.assertEqual(names(lattice)[:4], ["<00/0>", "<00/1>", "<00/2>", "<01/0>"])
        self.assertEqual(lattice.irreducibles(), [1, 2, 3, 6])
        self.check_halves(lattice, left, right)

    def test_pairs_of_regular_lattices(self):
        for left in regular_samples():
            for right in (ChainLattice(1), ChainLattice(2), corner()):
                if left.size * right.size <= 40:
                    lattice = PairLattice(left, right)
                    self.check_halves(lattice, left, right)
                    self.assertEqual(lattice.irreducibles(), irreducibles(lattice))
                    check_regular(self, lattice)

    def test_the_same_lattice_twice(self):
        half = corner()
        lattice = PairLattice(half, half)
        self.assertEqual(lattice.name_at(7), "<{b}/{c}>")
        self.check_halves(lattice, half, half)
        self.assertEqual(lattice.irreducibles(), [1, 2, 4, 5, 10, 20])

    def test_ends_that_are_not_at_the_first_and_last_place(self):
        left = OrderLattice(["x", "hi", "lo", "y"], [("lo", "x"), ("lo", "y"), ("x", "hi"), ("y", "hi")])
        right = OrderLattice(["t", "m", "o"], [("o", "m"), ("m", "t")])
        lattice = PairLattice(left, right)
        self.assertEqual(lattice.name_at(lattice.bottom_at), "<lo/o>")
        self.assertEqual(lattice.name_at(lattice.top_at), "<hi/t>")
        self.check_halves(lattice, left, right)
        self.assertEqual([lattice.name_at(k) for k in lattice.irreducibles()], ["<x/o>", "<lo/t>", "<lo/m>", "<y/o>"])


class TestOneValue(Pairs):
    def test_both(self):
        lattice = PairLattice(ChainLattice(1), OrderLattice(["x"], []))
        self.assertEqual((lattice.size, lattice.bottom_at, lattice.top_at), (1, 0, 0))
        self.assertEqual(names(lattice), ["<0/x>"])
        self.assertEqual((lattice.join_at(0, 0), lattice.meet_at(0, 0)), (0, 0))
        self.assertIs(lattice.within_at(0, 0), True)
        self.assertEqual(lattice.irreducibles(), [])

    def test_one_of_them(self):
        left = PairLattice(ChainLattice(1), SetLattice(2))
        self.assertEqual(names(left), ["<0/00>", "<0/01>", "<0/10>", "<0/11>"])
        self.assertEqual(left.irreducibles(), [1, 2])
        self.check_halves(left, ChainLattice(1), SetLattice(2))
        right = PairLattice(SetLattice(2), ChainLattice(1))
        self.assertEqual(names(right), ["<00/0>", "<01/0>", "<10/0>", "<11/0>"])
        self.assertEqual(right.irreducibles(), [1, 2])
        self.check_halves(right, SetLattice(2), ChainLattice(1))


class TestLacking(Pairs):
    def test_joins_and_top(self):
        for left, right in ((fork(), ChainLattice(2)), (ChainLattice(2), fork())):
            lattice = PairLattice(left, right)
            self.assertEqual((lattice.bottom_at, lattice.top_at), (0, None))
            self.check_halves(lattice, left, right)
        self.assertIsNone(PairLattice(fork(), ChainLattice(2)).join_at(2, 4))
        self.assertEqual(PairLattice(fork(), ChainLattice(2)).meet_at(2, 4), 0)
        self.assertIsNone(PairLattice(ChainLattice(2), fork()).join_at(1, 5))
        self.assertEqual(PairLattice(ChainLattice(2), fork()).join_at(1, 4), 4)

    def test_meets_and_bottom(self):
        for left, right in ((roof(), ChainLattice(2)), (ChainLattice(2), roof())):
            lattice = PairLattice(left, right)
            self.assertEqual((lattice.bottom_at, lattice.top_at), (None, 5))
            self.check_halves(lattice, left, right)
        self.assertIsNone(PairLattice(roof(), ChainLattice(2)).meet_at(0, 2))
        self.assertEqual(PairLattice(roof(), ChainLattice(2)).join_at(0, 2), 4)

    def test_all_of_it(self):
        for bad in (loose(), double_cross()):
            for other in (ChainLattice(1), ChainLattice(3), fork(), roof(), loose()):
                for left, right in ((bad, other), (other, bad)):
                    lattice = PairLattice(left, right)
                    self.assertEqual((lattice.bottom_at, lattice.top_at), (None, None))
                    self.check_halves(lattice, left, right)

    def test_one_lacks_below_the_other_above(self):
        lattice = PairLattice(fork(), roof())
        self.assertEqual((lattice.bottom_at, lattice.top_at), (None, None))
        self.check_halves(lattice, fork(), roof())

    def test_every_order_of_three(self):
        for told in orders_of_three():
            self.check_halves(PairLattice(told, ChainLattice(2)), told, ChainLattice(2))
            self.check_halves(PairLattice(ChainLattice(2), told), ChainLattice(2), told)

    def test_irreducibles_without_spread(self):
        for bad in (three_beside(), pentagon()):
            for left, right in ((bad, ChainLattice(3)), (SetLattice(2), bad), (bad, bad)):
                lattice = PairLattice(left, right)
                self.assertEqual(lattice.irreducibles(), irreducibles(lattice))
        self.assertEqual(PairLattice(three_beside(), ChainLattice(2)).irreducibles(), [1, 2, 4, 6])


class TestSizes(Pairs):
    def test_just_sixty_four_values(self):
        for left, right in ((SetLattice(3), SetLattice(3)), (ChainLattice(16), SetLattice(2)),
                            (ChainLattice(1), ChainLattice(64)), (SetLattice(6), ChainLattice(1)),
                            (ChainLattice(2), PairLattice(ChainLattice(4), ChainLattice(8)))):
            lattice = PairLattice(left, right)
            self.assertEqual((lattice.size, lattice.bottom_at, lattice.top_at), (64, 0, 63))
            self.assertEqual(len(set(names(lattice))), 64)
        self.check_halves(PairLattice(SetLattice(3), ChainLattice(8)), SetLattice(3), ChainLattice(8))
        self.assertEqual(PairLattice(SetLattice(3), SetLattice(3)).irreducibles(), [1, 2, 4, 8, 16, 32])

    def test_more(self):
        self.check_bad(ChainLattice(5), ChainLattice(13))
        self.check_bad(ChainLattice(13), ChainLattice(5))
        self.check_bad(ChainLattice(33), ChainLattice(2))
        self.check_bad(ChainLattice(64), ChainLattice(2))
        self.check_bad(SetLattice(6), DownLattice(["a"], []))
        self.check_bad(ChainLattice(64), ChainLattice(64))
        self.check_bad(PairLattice(SetLattice(3), SetLattice(3)), TurnedLattice(ChainLattice(2)))

    def test_irregular_ones_count_alike(self):
        sixteen = OrderLattice([f"n{k}" for k in range(16)], [])
        self.assertEqual(PairLattice(sixteen, loose()).size, 32)
        self.assertEqual(PairLattice(sixteen, double_cross()).size, 64)
        self.check_bad(sixteen, three_beside())


class TestNames(Pairs):
    def check_unknown(self, lattice, name):
        with self.assertRaises(UnknownValue) as caught:
            lattice.at_name(name)
        self.assertEqual(caught.exception.name, name)

    def test_names_both_ways(self):
        for left in regular_samples() + irregular_samples():
            if left.size <= 12:
                lattice = PairLattice(left, corner())
                self.assertEqual([lattice.at_name(name) for name in names(lattice)], list(range(lattice.size)))

    def test_near_a_name(self):
        lattice = PairLattice(ChainLattice(3), SetLattice(2))
        for name in ("", "<", ">", "/", "<>", "</>", "<1/01", "1/01>", "1/01", "<1/01>>", "<<1/01>", "<1//01>",
                     "<1/01/>",
                     "</1/01>", "<01/1>", "<1>", "<1/>", "</01>", "<101>", "<1/011>", "<1/0>", "<3/01>", "<1/02>",
                     "<1 /01>", " <1/01>", "<1/01> ", "<1/01>\n", "(1/01)", "<1,01>", "1", "01", "0", "{1/01}"):
            self.check_unknown(lattice, name)

    def test_near_a_name_of_pairs_in_pairs(self):
        first = PairLattice(PairLattice(ChainLattice(2), ChainLattice(2)), ChainLattice(2))
        second = PairLattice(ChainLattice(2), PairLattice(ChainLattice(2), ChainLattice(2)))
        self.assertEqual(first.at_name("<<0/1>/1>"), 3)
        self.assertEqual(second.at_name("<0/<1/1>>"), 3)
        for name in ("<0/<1/1>>", "<0/1/1>", "<<0/1>1>", "<<0/1/1>", "<0/1>/1>", "<0/1>", "<<0/1>/<1>>", "<<0/1>//1>"):
            self.check_unknown(first, name)
        for name in ("<<0/1>/1>", "<0/1/1>", "<0/1>", "<1/1>", "<0/<1/1>", "<0<1/1>>"):
            self.check_unknown(second, name)

    def test_halves_of_several_kinds(self):
        lattice = PairLattice(corner(), TurnedLattice(diamond()))
        self.assertEqual(lattice.name_at(14), "<{b,c}/b>")
        self.assertEqual(lattice.at_name("<{b,c}/b>"), 14)
        for name in ("<{c,b}/b>", "<{b,c}/{b}>", "<{b/c}/b>", "<{b,c/b>", "<b/{b,c}>"):
            self.check_unknown(lattice, name)


class TestLabels(Pairs):
    def test_labels(self):
        self.assertEqual(PairLattice(diamond(), ChainLattice(1)).label,
                         "(pair (order (lo a b hi) (lo a lo b a hi b hi)) (chain 1))")
        self.assertEqual(PairLattice(corner(), PairLattice(SetLattice(1), loose())).label,
                         "(pair (downs (a b c) (b a c a)) (pair (sets 1) (order (a b) ())))")


if __name__ == "__main__":
    unittest.main()
