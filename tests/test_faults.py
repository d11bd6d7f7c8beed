"""Point 3: first_fault."""

import unittest
from itertools import permutations, product

from latticewish.combined import PairLattice, TurnedLattice
from latticewish.families import ChainLattice, DownLattice, SetLattice
from latticewish.faults import first_fault
from latticewish.lattices import OrderLattice
from tests.definitions import fault
from tests.samples import (
    corner, diamond, double_cross, fork, irregular_samples, loose, orders_of_three, pentagon, regular_samples, ring,
    roof, three_beside)

SIXTEEN = [f"n{k}" for k in range(16)]


class TestRegular(unittest.TestCase):
    def test_each_class(self):
        for lattice in regular_samples():
            self.assertIsNone(first_fault(lattice), lattice.label)

    def test_sixteen_values(self):
        row = OrderLattice(SIXTEEN, list(zip(SIXTEEN, SIXTEEN[1:])))
        for lattice in (row, ChainLattice(16), SetLattice(4), DownLattice(["a", "b", "c", "d"], []),
                        PairLattice(SetLattice(2), ChainLattice(4)), TurnedLattice(SetLattice(4))):
            self.assertEqual(lattice.size, 16)
            self.assertIsNone(first_fault(lattice))


class TestEachRule(unittest.TestCase):
    def test_order(self):
        self.assertEqual(first_fault(ring()), ("order", ("a", "b")))
        lattice = OrderLattice(["x", "c", "b", "a"], [("x", "a"), ("a", "b"), ("b", "c"), ("c", "a")])
        self.assertEqual(first_fault(lattice), ("order", ("c", "b")))

    def test_join(self):
        self.assertEqual(first_fault(fork()), ("join", ("a", "b")))
        self.assertEqual(first_fault(loose()), ("join", ("a", "b")))
        self.assertEqual(first_fault(double_cross()), ("join", ("a", "b")))
        lattice = OrderLattice(["c", "d", "b", "a"], [("a", "c"), ("a", "d"), ("b", "c"), ("b", "d")])
        self.assertEqual(first_fault(lattice), ("join", ("c", "d")))

    def test_meet(self):
        self.assertEqual(first_fault(roof()), ("meet", ("a", "b")))
        lattice = OrderLattice(["t", "m", "b", "c", "a"], [
            ("a", "m"), ("b", "m"), ("m", "t"), ("c", "t")])
        self.assertEqual(first_fault(lattice), ("meet", ("m", "c")))

    def test_spread(self):
        self.assertEqual(first_fault(three_beside()), ("spread", ("a", "b", "c")))
        self.assertEqual(first_fault(pentagon()), ("spread", ("b", "a", "c")))

    def test_kinds_of_the_answer(self):
        for lattice in irregular_samples():
            answer = first_fault(lattice)
            self.assertIs(type(answer), tuple)
            self.assertIs(type(answer[0]), str)
            self.assertIs(type(answer[1]), tuple)
            self.assertEqual(len(answer[1]), 3 if answer[0] == "spread" else 2)

    def test_the_first_in_the_order_of_places(self):
        pairs = [("o", "a"), ("a", "b"), ("b", "t"), ("o", "c"), ("c", "t")]
        for told in permutations("oabct"):
            lattice = OrderLattice(list(told), pairs)
            self.assertEqual(first_fault(lattice), fault(lattice))
        pairs = [("o", "a"), ("o", "b"), ("o", "c"), ("a", "t"), ("b", "t"), ("c", "t")]
        for told in ("toabc", "cbato", "octab"):
            lattice = OrderLattice(list(told), pairs)
            self.assertEqual(first_fault(lattice), fault(lattice))
        self.assertEqual(first_fault(OrderLattice(list("cbato"), pairs)), ("spread", ("c", "b", "a")))


class TestSeveralFaults(unittest.TestCase):
    def test_order_goes_first(self):
        lattice = OrderLattice(["a", "b", "c", "d"], [("c", "d"), ("d", "c")])
        self.assertEqual(first_fault(lattice), ("order", ("c", "d")))
        two = OrderLattice(["a", "b", "c", "d"], [("d", "b"), ("b", "d"), ("c", "a"), ("a", "c")])
        self.assertEqual(first_fault(two), ("order", ("a", "c")))

    def test_join_goes_before_meet_and_spread(self):
        lattice = OrderLattice(["a", "b", "t", "x"], [("a", "t"), ("b", "t")])
        self.assertEqual(first_fault(lattice), ("join", ("a", "x")))
        told = ["o", "a", "b", "c", "t", "y", "z"]
        pairs = [("o", "a"), ("a", "b"), ("b", "t"), ("o", "c"), ("c", "t"), ("t", "y"), ("t", "z")]
        self.assertEqual(first_fault(OrderLattice(told, pairs)), ("join", ("y", "z")))

    def test_meet_goes_before_spread(self):
        told = ["o", "a", "b", "c", "t", "y", "z"]
        pairs = [("o", "a"), ("a", "b"), ("b", "t"), ("o", "c"), ("c", "t"), ("y", "o"), ("z", "o")]
        self.assertEqual(first_fault(OrderLattice(told, pairs)), ("meet", ("y", "z")))

    def test_every_order_of_three(self):
        for lattice in orders_of_three():
            self.assertEqual(first_fault(lattice), fault(lattice), lattice.label)

    def test_many_orders_of_four(self):
        told = ["a", "b", "c", "d"]
        pairs = [(low, high) for low in told for high in told if low != high]
        for number, bits in enumerate(product((0, 1), repeat=12)):
            if number % 7 == 0:
                lattice = OrderLattice(told, [pair for pair, bit in zip(pairs, bits) if bit])
                self.assertEqual(first_fault(lattice), fault(lattice), lattice.label)


class TestCombined(unittest.TestCase):
    def test_turned(self):
        self.assertEqual(first_fault(TurnedLattice(ring())), ("order", ("a", "b")))
        self.assertEqual(first_fault(TurnedLattice(fork())), ("meet", ("a", "b")))
        self.assertEqual(first_fault(TurnedLattice(roof())), ("join", ("a", "b")))
        self.assertEqual(first_fault(TurnedLattice(three_beside())), ("spread", ("a", "b", "c")))
        self.assertEqual(first_fault(TurnedLattice(pentagon())), ("spread", ("a", "b", "c")))

    def test_pairs(self):
        two = ChainLattice(2)
        self.assertEqual(first_fault(PairLattice(two, ring())), ("order", ("<0/a>", "<0/b>")))
        self.assertEqual(first_fault(PairLattice(ring(), two)), ("order", ("<a/0>", "<b/0>")))
        self.assertEqual(first_fault(PairLattice(two, fork())), ("join", ("<0/a>", "<0/b>")))
        self.assertEqual(first_fault(PairLattice(roof(), two)), ("meet", ("<a/0>", "<b/0>")))
        self.assertEqual(first_fault(PairLattice(two, three_beside())), ("spread", ("<0/a>", "<0/b>", "<0/c>")))
        self.assertEqual(first_fault(PairLattice(pentagon(), two)), ("spread", ("<b/0>", "<a/0>", "<c/0>")))
        self.assertEqual(first_fault(PairLattice(fork(), roof())), ("join", ("<a/a>", "<b/a>")))

    def test_against_the_rules(self):
        for bad in irregular_samples():
            for good in (ChainLattice(1), ChainLattice(2), TurnedLattice(ChainLattice(3))):
                for lattice in (PairLattice(bad, good), PairLattice(good, bad), TurnedLattice(PairLattice(bad, good)),
                                PairLattice(TurnedLattice(bad), good), TurnedLattice(TurnedLattice(bad))):
                    self.assertEqual(first_fault(lattice), fault(lattice), lattice.label)
                    self.assertIsNotNone(first_fault(lattice))

    def test_regular_just_if_both_are(self):
        for lattice in orders_of_three():
            for other in (fork(), corner(), diamond()):
                regular = first_fault(lattice) is None and first_fault(other) is None
                self.assertEqual(first_fault(PairLattice(lattice, other)) is None, regular)
            self.assertEqual(first_fault(TurnedLattice(lattice)) is None, first_fault(lattice) is None)


class TestSixteenValues(unittest.TestCase):
    def test_fault_at_the_last_values(self):
        row = list(zip(SIXTEEN[:12], SIXTEEN[1:12]))
        beside = [("n11", "n12"), ("n11", "n13"), ("n11", "n14"), ("n12", "n15"), ("n13", "n15"), ("n14", "n15")]
        self.assertEqual(first_fault(OrderLattice(SIXTEEN, row + beside)), ("spread", ("n12", "n13", "n14")))
        self.assertEqual(first_fault(OrderLattice(SIXTEEN, list(zip(SIXTEEN, SIXTEEN[1:])) + [("n15", "n14")])),
                         ("order", ("n14", "n15")))
        fork_above = list(zip(SIXTEEN[:15], SIXTEEN[1:15])) + [("n13", "n15")]
        self.assertEqual(first_fault(OrderLattice(SIXTEEN, fork_above)), ("join", ("n14", "n15")))
        roof_below = [(high, low) for low, high in fork_above]
        self.assertEqual(first_fault(OrderLattice(SIXTEEN, roof_below)), ("meet", ("n14", "n15")))
        self.assertEqual(first_fault(OrderLattice(SIXTEEN, [])), ("join", ("n0", "n1")))


if __name__ == "__main__":
    unittest.main()
