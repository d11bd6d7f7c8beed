"""Points 2, 4 and 7 for OrderLattice."""

import unittest
from itertools import product

from latticewish.errors import BadLattice, UnknownValue
from latticewish.lattices import Lattice, OrderLattice
from tests.definitions import check_as_defined, check_regular, irreducibles, names
from tests.samples import diamond, pentagon, three_beside

SIXTEEN = [f"n{k}" for k in range(16)]


def chain_pairs(row):
    return list(zip(row, row[1:]))


class TestRegular(unittest.TestCase):
    def test_one_name(self):
        lattice = OrderLattice(["a"], [])
        self.assertIsInstance(lattice, Lattice)
        self.assertEqual((lattice.size, lattice.bottom_at, lattice.top_at), (1, 0, 0))
        self.assertEqual(lattice.label, "(order (a) ())")
        self.assertEqual((lattice.join_at(0, 0), lattice.meet_at(0, 0)), (0, 0))
        self.assertIs(lattice.within_at(0, 0), True)
        self.assertEqual(lattice.irreducibles(), [])

    def test_two_names(self):
        lattice = OrderLattice(["hi", "lo"], [("lo", "hi")])
        self.assertEqual((lattice.bottom_at, lattice.top_at), (1, 0))
        self.assertIs(lattice.within_at(1, 0), True)
        self.assertIs(lattice.within_at(0, 1), False)
        self.assertEqual((lattice.join_at(0, 1), lattice.join_at(1, 0)), (0, 0))
        self.assertEqual((lattice.meet_at(0, 1), lattice.meet_at(1, 0)), (1, 1))
        self.assertEqual(lattice.irreducibles(), [0])

    def test_diamond(self):
        lattice = diamond()
        self.assertEqual((lattice.size, lattice.bottom_at, lattice.top_at), (4, 0, 3))
        self.assertEqual(names(lattice), ["lo", "a", "b", "hi"])
        self.assertEqual((lattice.join_at(1, 2), lattice.meet_at(1, 2)), (3, 0))
        self.assertEqual((lattice.join_at(0, 2), lattice.meet_at(3, 2)), (2, 2))
        self.assertIs(lattice.within_at(1, 2), False)
        self.assertIs(lattice.within_at(0, 3), True)
        self.assertEqual(lattice.irreducibles(), [1, 2])
        check_as_defined(self, lattice)
        check_regular(self, lattice)

    def test_sixteen_names_in_a_row(self):
        row = SIXTEEN[5:] + SIXTEEN[:5]
        lattice = OrderLattice(SIXTEEN, chain_pairs(row))
        self.assertEqual((lattice.size, lattice.bottom_at, lattice.top_at), (16, 5, 4))
        self.assertIs(lattice.within_at(5, 4), True)
        self.assertIs(lattice.within_at(4, 5), False)
        self.assertIs(lattice.within_at(15, 0), True)
        self.assertEqual((lattice.join_at(15, 0), lattice.meet_at(15, 0)), (0, 15))
        self.assertEqual(lattice.irreducibles(), [k for k in range(16) if k != 5])
        check_as_defined(self, lattice)

    def test_sixteen_sets(self):
        told = ["".join(bits) for bits in product("01", repeat=4)]
        pairs = [(a, b) for a in told for b in told if all(x <= y for x, y in zip(a, b))]
        lattice = OrderLattice(told, pairs)
        self.assertEqual(lattice.irreducibles(), [1, 2, 4, 8])
        for first in range(16):
            for second in range(16):
                self.assertEqual(lattice.join_at(first, second), first | second)
                self.assertEqual(lattice.meet_at(first, second), first & second)
        check_regular(self, lattice)

    def test_rows_of_pairs_in_any_order(self):
        for pairs in ([("a", "b"), ("b", "c"), ("c", "d")], [("c", "d"), ("b", "c"), ("a", "b")],
                      [("b", "c"), ("a", "b"), ("c", "d")], [("a", "b"), ("c", "d"), ("b", "c")]):
            for told in ("abcd", "dcba", "bdac", "cadb"):
                lattice = OrderLattice(list(told), pairs)
                self.assertIs(lattice.within_at(told.index("a"), told.index("d")), True)
                self.assertIs(lattice.within_at(told.index("d"), told.index("a")), False)
                self.assertEqual(names(lattice)[lattice.bottom_at], "a")
                self.assertEqual(names(lattice)[lattice.top_at], "d")
                self.assertEqual(lattice.irreducibles(), [k for k in range(4) if told[k] != "a"])

    def test_pairs_that_change_nothing(self):
        plain = diamond()
        more = OrderLattice(["lo", "a", "b", "hi"], [
            ("lo", "hi"), ("lo", "a"), ("a", "a"), ("lo", "b"), ("a", "hi"), ("hi", "hi"), ("b", "hi"), ("a", "hi")])
        for first in range(4):
            for second in range(4):
                self.assertEqual(more.within_at(first, second), plain.within_at(first, second))
                self.assertEqual(more.join_at(first, second), plain.join_at(first, second))
                self.assertEqual(more.meet_at(first, second), plain.meet_at(first, second))
        self.assertEqual(more.irreducibles(), [1, 2])


class TestNotRegular(unittest.TestCase):
    def test_no_pairs(self):
        lattice = OrderLattice(["a", "b"], [])
        self.assertIsNone(lattice.bottom_at)
        self.assertIsNone(lattice.top_at)
        self.assertIsNone(lattice.join_at(0, 1))
        self.assertIsNone(lattice.meet_at(1, 0))
        self.assertEqual((lattice.join_at(1, 1), lattice.meet_at(1, 1)), (1, 1))
        self.assertIs(lattice.within_at(0, 1), False)
        self.assertIs(lattice.within_at(1, 0), False)

    def test_bottom_without_top(self):
        lattice = OrderLattice(["b", "o", "c"], [("o", "b"), ("o", "c")])
        self.assertEqual((lattice.bottom_at, lattice.top_at), (1, None))
        self.assertIsNone(lattice.join_at(0, 2))
        self.assertEqual(lattice.meet_at(0, 2), 1)

    def test_top_without_bottom(self):
        lattice = OrderLattice(["b", "t", "c"], [("b", "t"), ("c", "t")])
        self.assertEqual((lattice.bottom_at, lattice.top_at), (None, 1))
        self.assertIsNone(lattice.meet_at(0, 2))
        self.assertEqual(lattice.join_at(0, 2), 1)

    def test_two_upper_bounds_beside_one_another(self):
        pairs = [("o", "a"), ("o", "b"), ("a", "c"), ("a", "d"), ("b", "c"), ("b", "d"), ("c", "t"), ("d", "t")]
        lattice = OrderLattice(["o", "a", "b", "c", "d", "t"], pairs)
        self.assertEqual((lattice.bottom_at, lattice.top_at), (0, 5))
        self.assertIsNone(lattice.join_at(1, 2))
        self.assertIsNone(lattice.meet_at(3, 4))
        self.assertEqual((lattice.join_at(3, 4), lattice.meet_at(1, 2)), (5, 0))
        check_as_defined(self, lattice)

    def test_no_spread(self):
        lattice = three_beside()
        self.assertEqual((lattice.join_at(1, 2), lattice.meet_at(1, 2)), (4, 0))
        self.assertEqual(lattice.irreducibles(), [1, 2, 3])
        check_as_defined(self, lattice)
        self.assertEqual(pentagon().irreducibles(), [1, 2, 3])
        check_as_defined(self, pentagon())

    def test_joins_without_all_meets(self):
        lattice = OrderLattice(["a", "b", "t"], [("a", "t"), ("b", "t")])
        self.assertEqual([lattice.join_at(0, 1), lattice.join_at(0, 2), lattice.join_at(2, 1)], [2, 2, 2])
        self.assertEqual([lattice.meet_at(0, 1), lattice.meet_at(0, 2), lattice.meet_at(2, 1)], [None, 0, 1])

    def test_every_order_of_three_names(self):
        told = ["a", "b", "c"]
        possible = list(product(told, told))
        for chosen in range(2 ** len(possible)):
            pairs = [possible[k] for k in range(len(possible)) if chosen >> k & 1]
            lattice = OrderLattice(told, pairs)
            self.check_rows(lattice, told, pairs)
            check_as_defined(self, lattice)
            joins = [lattice.join_at(a, b) for a in range(3) for b in range(3)]
            if lattice.bottom_at is not None and None not in joins:
                self.assertEqual(lattice.irreducibles(), irreducibles(lattice))

    def check_rows(self, lattice, told, pairs):
        for low in told:
            reached = [low]
            for name in reached:
                reached.extend(b for a, b in pairs if a == name and b not in reached)
            for high in told:
                within = lattice.within_at(told.index(low), told.index(high))
                self.assertEqual(within, high in reached)


class TestRings(unittest.TestCase):
    def test_ring_of_two(self):
        lattice = OrderLattice(["a", "b"], [("a", "b"), ("b", "a")])
        self.assertEqual(lattice.size, 2)
        self.assertIs(lattice.within_at(0, 1), True)
        self.assertIs(lattice.within_at(1, 0), True)

    def test_ring_within_an_order(self):
        lattice = OrderLattice(["t", "r", "q", "p", "o"], [
            ("o", "p"), ("p", "q"), ("q", "r"), ("r", "p"), ("q", "t")])
        for first in (1, 2, 3):
            for second in (1, 2, 3):
                self.assertIs(lattice.within_at(first, second), True)
            self.assertIs(lattice.within_at(first, 0), True)
            self.assertIs(lattice.within_at(0, first), False)
            self.assertIs(lattice.within_at(4, first), True)
            self.assertIs(lattice.within_at(first, 4), False)
        self.assertEqual((lattice.bottom_at, lattice.top_at), (4, 0))
        self.assertEqual((lattice.join_at(0, 2), lattice.meet_at(4, 1)), (0, 4))

    def test_several_joins_give_the_first(self):
        lattice = OrderLattice(["a", "b"], [("a", "b"), ("b", "a")])
        self.assertEqual((lattice.bottom_at, lattice.top_at), (0, 0))
        self.assertEqual((lattice.join_at(1, 1), lattice.meet_at(1, 1)), (0, 0))
        self.assertEqual((lattice.join_at(0, 1), lattice.meet_at(1, 0)), (0, 0))


class TestNamesAndLabels(unittest.TestCase):
    def test_at_name(self):
        lattice = diamond()
        self.assertEqual([lattice.at_name(name) for name in ("lo", "a", "b", "hi")], [0, 1, 2, 3])
        self.assertEqual([lattice.name_at(place) for place in range(4)], ["lo", "a", "b", "hi"])

    def test_unknown_value(self):
        for name in ("c", "", "l", "LO", "lo ", "0", "lohi"):
            with self.assertRaises(UnknownValue) as caught:
                diamond().at_name(name)
            self.assertEqual(caught.exception.name, name)

    def test_labels(self):
        self.assertEqual(OrderLattice(["b", "a"], []).label, "(order (b a) ())")
        self.assertEqual(OrderLattice(["b", "a"], [("a", "b")]).label, "(order (b a) (a b))")
        pairs = [("b", "a"), ("a", "a"), ("b", "a"), ("a", "b")]
        self.assertEqual(OrderLattice(["b", "a"], pairs).label, "(order (b a) (b a a a b a a b))")
        self.assertEqual(diamond().label, "(order (lo a b hi) (lo a lo b a hi b hi))")

    def test_names_just_as_told(self):
        told = ["a", "z", "0", "9", "000000000000", "abcdefghijkl", "az09", "9a", "true", "mark"]
        self.assertEqual(names(OrderLattice(told, [])), told)


class TestBadLattice(unittest.TestCase):
    def check_bad(self, told, pairs):
        with self.assertRaises(BadLattice):
            OrderLattice(told, pairs)

    def test_number_of_names(self):
        self.check_bad([], [])
        self.assertEqual(OrderLattice(SIXTEEN, []).size, 16)
        self.check_bad(SIXTEEN + ["more"], [])
        self.check_bad(SIXTEEN + ["more", "still"], [])

    def test_name_twice(self):
        self.check_bad(["a", "a"], [])
        self.check_bad(["a", "b", "c", "b"], [("a", "b")])

    def test_characters(self):
        for name in ("", "abcdefghijklm", "0000000000000", "A", "aB", "a b", " ", "a-b", "_", "a_", "(", "a)",
                     "{a}", "a,b", "\u00e9", "a\n", "\u0661", "\u00b2", "a.b"):
            self.check_bad([name], [])
            self.check_bad(["a", name], [])
            self.check_bad([name, "b"], [])

    def test_pair_with_another_name(self):
        self.check_bad(["a", "b"], [("a", "c")])
        self.check_bad(["a", "b"], [("c", "b")])
        self.check_bad(["a", "b"], [("c", "c")])
        self.check_bad(["a", "b"], [("a", "b"), ("b", "")])
        self.check_bad(["a", "b"], [("a", "b"), ("b", "a"), ("ab", "a")])


if __name__ == "__main__":
    unittest.main()
