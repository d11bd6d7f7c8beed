"""Points 5, 6 and 7 for ChainLattice, SetLattice and DownLattice."""

import unittest
from itertools import product

from latticewish.errors import BadLattice, UnknownValue
from latticewish.families import ChainLattice, DownLattice, SetLattice
from latticewish.lattices import Lattice
from tests.definitions import check_as_defined, check_regular, irreducibles, names

SIX = ["a", "b", "c", "d", "e", "f"]


class Families(unittest.TestCase):
    def check_unknown(self, lattice, words):
        for word in words:
            with self.assertRaises(UnknownValue) as caught:
                lattice.at_name(word)
            self.assertEqual(caught.exception.name, word)

    def check_whole(self, lattice):
        self.assertIsInstance(lattice, Lattice)
        check_as_defined(self, lattice)
        self.assertEqual(lattice.irreducibles(), irreducibles(lattice))


class TestChain(Families):
    def test_counts(self):
        for count in (1, 2, 63, 64):
            lattice = ChainLattice(count)
            self.assertEqual((lattice.size, lattice.bottom_at, lattice.top_at), (count, 0, count - 1))
            self.assertEqual(lattice.label, f"(chain {count})")
        for count in (0, -1, -64, 65, 66, 1000):
            with self.assertRaises(BadLattice):
                ChainLattice(count)

    def test_one_value(self):
        lattice = ChainLattice(1)
        self.assertEqual(names(lattice), ["0"])
        self.assertEqual(lattice.irreducibles(), [])
        self.check_whole(lattice)

    def test_order(self):
        lattice = ChainLattice(12)
        for first in range(12):
            for second in range(12):
                self.assertIs(lattice.within_at(first, second), first <= second)
                self.assertEqual(lattice.join_at(first, second), max(first, second))
                self.assertEqual(lattice.meet_at(first, second), min(first, second))
        self.check_whole(lattice)
        check_regular(self, lattice)

    def test_names(self):
        lattice = ChainLattice(64)
        self.assertEqual(names(lattice), [str(k) for k in range(64)])
        self.assertEqual(lattice.at_name("63"), 63)
        self.check_unknown(lattice, ("64", "-1", "00", "01", "+1", " 1", "1 ", "", "a", "\u0661"))
        self.check_unknown(ChainLattice(2), ("2", "10"))

    def test_irreducibles(self):
        self.assertEqual(ChainLattice(2).irreducibles(), [1])
        self.assertEqual(ChainLattice(5).irreducibles(), [1, 2, 3, 4])
        self.assertEqual(ChainLattice(64).irreducibles(), list(range(1, 64)))


class TestSets(Families):
    def test_counts(self):
        for count in (1, 2, 5, 6):
            lattice = SetLattice(count)
            self.assertEqual((lattice.size, lattice.bottom_at, lattice.top_at), (2 ** count, 0, 2 ** count - 1))
            self.assertEqual(lattice.label, f"(sets {count})")
        for count in (0, -1, -6, 7, 8, 64):
            with self.assertRaises(BadLattice):
                SetLattice(count)

    def test_order(self):
        lattice = SetLattice(4)
        for first in range(16):
            for second in range(16):
                parts = zip(lattice.name_at(first), lattice.name_at(second))
                self.assertIs(lattice.within_at(first, second), all(a <= b for a, b in parts))
                self.assertEqual(lattice.join_at(first, second), first | second)
                self.assertEqual(lattice.meet_at(first, second), first & second)
        self.check_whole(lattice)
        check_regular(self, lattice)

    def test_small_and_great(self):
        self.check_whole(SetLattice(1))
        self.check_whole(SetLattice(3))
        check_as_defined(self, SetLattice(6))

    def test_names(self):
        self.assertEqual(names(SetLattice(1)), ["0", "1"])
        self.assertEqual(names(SetLattice(2)), ["00", "01", "10", "11"])
        self.assertEqual(names(SetLattice(6)), ["".join(bits) for bits in product("01", repeat=6)])
        self.assertEqual(SetLattice(6).at_name("101001"), 41)
        self.check_unknown(SetLattice(2), ("0", "1", "000", "011", "02", "", "3", "0b", "0 "))

    def test_irreducibles(self):
        self.assertEqual(SetLattice(1).irreducibles(), [1])
        self.assertEqual(SetLattice(3).irreducibles(), [1, 2, 4])
        self.assertEqual(SetLattice(6).irreducibles(), [1, 2, 4, 8, 16, 32])


class TestDowns(Families):
    def check_bad(self, told, pairs):
        with self.assertRaises(BadLattice):
            DownLattice(told, pairs)

    def test_one_name(self):
        lattice = DownLattice(["a"], [])
        self.assertEqual(names(lattice), ["{}", "{a}"])
        self.assertEqual((lattice.size, lattice.bottom_at, lattice.top_at), (2, 0, 1))
        self.assertEqual(lattice.label, "(downs (a) ())")
        self.assertEqual(lattice.irreducibles(), [1])
        self.check_whole(lattice)

    def test_without_pairs(self):
        lattice = DownLattice(["x", "a", "m"], [])
        self.assertEqual(names(lattice), ["{}", "{x}", "{a}", "{x,a}", "{m}", "{x,m}", "{a,m}", "{x,a,m}"])
        self.assertEqual(lattice.irreducibles(), [1, 2, 4])
        self.assertEqual((lattice.join_at(1, 4), lattice.meet_at(3, 6)), (5, 2))
        self.check_whole(lattice)
        check_regular(self, lattice)

    def test_with_pairs(self):
        lattice = DownLattice(["a", "b", "c"], [("b", "a"), ("c", "a")])
        self.assertEqual(names(lattice), ["{}", "{b}", "{c}", "{b,c}", "{a,b,c}"])
        self.assertEqual(lattice.irreducibles(), [1, 2, 4])
        self.assertEqual((lattice.join_at(1, 2), lattice.meet_at(1, 2), lattice.meet_at(3, 4)), (3, 0, 3))
        self.assertIs(lattice.within_at(1, 2), False)
        self.assertIs(lattice.within_at(1, 4), True)
        self.assertIs(lattice.within_at(4, 1), False)
        self.assertEqual((lattice.bottom_at, lattice.top_at), (0, 4))
        self.check_whole(lattice)
        check_regular(self, lattice)

    def test_rows_of_pairs(self):
        lattice = DownLattice(["d", "c", "b", "a"], [("c", "d"), ("a", "b"), ("b", "c")])
        self.assertEqual(names(lattice), ["{}", "{a}", "{b,a}", "{c,b,a}", "{d,c,b,a}"])
        self.assertEqual(lattice.irreducibles(), [1, 2, 3, 4])
        self.assertEqual(lattice.label, "(downs (d c b a) (c d a b b c))")

    def test_a_set_of_one_that_is_missing(self):
        lattice = DownLattice(["a", "b"], [("a", "b")])
        self.assertEqual(names(lattice), ["{}", "{a}", "{a,b}"])
        self.check_unknown(lattice, ("{b}", "{b,a}", "{a, b}", "a", "", "{", "{a}{b}", "{A}"))

    def test_pairs_that_change_nothing(self):
        lattice = DownLattice(["a", "b"], [("a", "a"), ("a", "b"), ("a", "b"), ("b", "b")])
        self.assertEqual(names(lattice), ["{}", "{a}", "{a,b}"])
        self.assertEqual(lattice.label, "(downs (a b) (a a a b a b b b))")

    def test_just_sixty_four_values(self):
        lattice = DownLattice(SIX, [])
        self.assertEqual((lattice.size, lattice.bottom_at, lattice.top_at), (64, 0, 63))
        self.assertEqual(lattice.name_at(63), "{a,b,c,d,e,f}")
        self.assertEqual(lattice.name_at(33), "{a,f}")
        self.assertEqual(lattice.at_name("{b,c}"), 6)
        self.assertEqual(lattice.irreducibles(), [1, 2, 4, 8, 16, 32])
        check_as_defined(self, lattice)

    def test_every_value_is_as_told(self):
        for pairs in ([("a", "d"), ("b", "d"), ("d", "f"), ("c", "e")], [("f", "a"), ("e", "a"), ("f", "b")],
                      [("a", "b"), ("b", "c"), ("c", "d"), ("d", "e"), ("e", "f")]):
            lattice = DownLattice(SIX, pairs)
            self.assertEqual([self.members(name) for name in names(lattice)], self.closed_sets(pairs))
            for first in range(lattice.size):
                for second in range(lattice.size):
                    low, high = self.members(lattice.name_at(first)), self.members(lattice.name_at(second))
                    self.assertIs(lattice.within_at(first, second), set(low) <= set(high))
            self.check_whole(lattice)
            check_regular(self, lattice)

    def members(self, name):
        self.assertEqual((name[0], name[-1]), ("{", "}"))
        return name[1:-1].split(",") if name != "{}" else []

    def closed_sets(self, pairs):
        sets = [[SIX[k] for k in range(6) if mask >> k & 1] for mask in range(64)]
        return [told for told in sets if all(low in told for low, high in pairs if high in told)]

    def test_bad_numbers_of_names(self):
        self.check_bad([], [])
        self.assertEqual(DownLattice(SIX, [("a", "b")]).size, 48)
        self.check_bad(SIX + ["g"], [])
        self.check_bad(SIX + ["g"], list(zip(SIX, SIX[1:] + ["g"])))

    def test_bad_names(self):
        self.check_bad(["a", "a"], [])
        for name in ("", "abcdefghijklm", "A", "a b", "a,b", "{", "\u00e9"):
            self.check_bad(["b", name], [])
        self.assertEqual(DownLattice(["abcdefghijkl"], []).name_at(1), "{abcdefghijkl}")

    def test_bad_pairs(self):
        self.check_bad(["a", "b"], [("a", "c")])
        self.check_bad(["a", "b"], [("c", "a")])

    def test_rings(self):
        self.check_bad(["a", "b"], [("a", "b"), ("b", "a")])
        self.check_bad(["a", "b", "c"], [("a", "b"), ("c", "a"), ("b", "c")])
        self.check_bad(SIX, [("a", "b"), ("d", "e"), ("e", "f"), ("f", "d")])


if __name__ == "__main__":
    unittest.main()
