"""Point 8: values."""

import unittest

from latticewish.combined import PairLattice, TurnedLattice
from latticewish.errors import MixedLattices, UnknownValue
from latticewish.families import ChainLattice, SetLattice
from latticewish.labels import read_lattice
from latticewish.lattices import OrderLattice
from latticewish.truths import Value
from tests import definitions
from tests.samples import corner, diamond, regular_samples


def whole(lattice):
    return [Value(lattice, place) for place in range(lattice.size)]


class TestAttributes(unittest.TestCase):
    def test_every_class(self):
        for lattice in regular_samples():
            for place in range(lattice.size):
                value = Value(lattice, place)
                self.assertIs(value.lattice, lattice)
                self.assertEqual(value.place, place)
                self.assertEqual(value.name, lattice.name_at(place))
                self.assertEqual(str(value), lattice.name_at(place))
                self.assertEqual(set(vars(value)) & {"lattice", "place", "name"}, {"lattice", "place", "name"})

    def test_class_methods(self):
        for lattice in regular_samples():
            for place in range(lattice.size):
                value = Value.named(lattice, lattice.name_at(place))
                self.assertIs(type(value), Value)
                self.assertIs(value.lattice, lattice)
                self.assertEqual((value.place, value.name), (place, lattice.name_at(place)))
            self.assertEqual(Value.bottom(lattice).place, lattice.bottom_at)
            self.assertEqual(Value.top(lattice).place, lattice.top_at)
        self.assertEqual((str(Value.bottom(corner())), str(Value.top(corner()))), ("{}", "{a,b,c}"))
        turned = TurnedLattice(ChainLattice(4))
        self.assertEqual((str(Value.bottom(turned)), str(Value.top(turned))), ("3", "0"))

    def test_unknown_value(self):
        for lattice in (ChainLattice(3), SetLattice(2), corner(), diamond(), PairLattice(corner(), ChainLattice(2)),
                        TurnedLattice(SetLattice(2))):
            for name in ("", "3", "x", "{a}", "<0/0>", "<{}/2>", "LO", " 0", "001"):
                with self.assertRaises(UnknownValue) as caught:
                    Value.named(lattice, name)
                self.assertEqual(caught.exception.name, name)


class TestOperators(unittest.TestCase):
    def test_all_pairs_of_values(self):
        for lattice in regular_samples():
            for first in range(lattice.size):
                for second in range(lattice.size):
                    self.check_pair(lattice, lattice, first, second)

    def check_pair(self, lattice, again, first, second):
        a, b = Value(lattice, first), Value(again, second)
        self.assertIs(type(a | b), Value)
        self.assertIs(type(a & b), Value)
        self.assertEqual((a | b).lattice.label, lattice.label)
        self.assertEqual((a & b).lattice.label, lattice.label)
        self.assertEqual((a | b).place, definitions.join(lattice, first, second))
        self.assertEqual((a & b).place, definitions.meet(lattice, first, second))
        self.assertEqual((a | b).name, lattice.name_at((a | b).place))
        within = lattice.within_at(first, second)
        self.assertIs(a <= b, within)
        self.assertIs(a < b, within and first != second)
        self.assertIs(b >= a, within)
        self.assertIs(b > a, within and first != second)
        self.assertIs(a == b, first == second)
        self.assertIs(a != b, first != second)
        self.assertEqual((a.place, b.place), (first, second))

    def test_lattices_with_equal_labels(self):
        for lattice in regular_samples():
            again = read_lattice(lattice.label)
            for first in range(lattice.size):
                for second in range(lattice.size):
                    self.check_pair(lattice, again, first, second)
                    self.assertEqual(Value(lattice, first).implies(Value(again, second)),
                                     Value(again, first).implies(Value(lattice, second)))

    def test_written_out(self):
        told = SetLattice(3)
        a, b = Value.named(told, "011"), Value.named(told, "110")
        self.assertEqual((str(a | b), str(a & b), str(a.implies(b))), ("111", "010", "110"))
        self.assertIs(a <= b, False)
        self.assertIs(b <= a, False)
        self.assertIs(a & b <= a, True)
        self.assertIs(a & b < a, True)
        self.assertIs(a < a, False)
        self.assertIs(a <= a, True)
        self.assertEqual((str(a), str(b)), ("011", "110"))

    def test_turned(self):
        told = TurnedLattice(ChainLattice(4))
        one, two = Value.named(told, "1"), Value.named(told, "2")
        self.assertEqual((str(one | two), str(one & two)), ("1", "2"))
        self.assertIs(two < one, True)
        self.assertIs(one <= two, False)


class TestOtherLattices(unittest.TestCase):
    def check_mixed(self, a, b):
        for action in (lambda: a | b, lambda: a & b, lambda: a <= b, lambda: a < b, lambda: a.implies(b),
                       lambda: a >= b, lambda: a > b):
            with self.assertRaises(MixedLattices):
                action()
        self.assertIs(a == b, False)
        self.assertIs(a != b, True)

    def test_the_same_names(self):
        for lattice in regular_samples():
            other = TurnedLattice(lattice)
            for first in range(lattice.size):
                for second in (first, 0):
                    self.check_mixed(Value(lattice, first), Value(other, second))
                    self.check_mixed(Value(other, second), Value(lattice, first))

    def test_turned_twice(self):
        self.check_mixed(Value(ChainLattice(2), 1), Value(TurnedLattice(TurnedLattice(ChainLattice(2))), 1))

    def test_other_labels(self):
        lattices = [
            ChainLattice(2), ChainLattice(3), SetLattice(1), SetLattice(2), OrderLattice(["0", "1"], [("0", "1")]),
            OrderLattice(["0", "1"], [("0", "1"), ("0", "1")]), corner(), diamond(),
            PairLattice(ChainLattice(2), ChainLattice(1)), PairLattice(ChainLattice(1), ChainLattice(2))]
        for first in lattices:
            for second in lattices:
                if first.label != second.label:
                    self.check_mixed(Value(first, 0), Value(second, 0))
                    self.check_mixed(Value.top(first), Value.bottom(second))

    def test_equal_to_nothing_else(self):
        for value in (Value(ChainLattice(2), 1), Value(SetLattice(2), 0), Value(corner(), 2)):
            for other in ("1", value.name, value.place, 0, 1, True, None, [], (), [value], (value.lattice, value.place),
                          value.lattice, {}, b"1"):
                self.assertIs(value == other, False)
                self.assertIs(value != other, True)
                self.assertIs(other == value, False)


class TestImplies(unittest.TestCase):
    def check_implies(self, lattice, first, second):
        places = range(lattice.size)
        allowed = [x for x in places if lattice.within_at(definitions.meet(lattice, first, x), second)]
        greatest = [x for x in allowed if all(lattice.within_at(y, x) for y in allowed)]
        answer = Value(lattice, first).implies(Value(lattice, second))
        self.assertIs(type(answer), Value)
        self.assertEqual([answer.place], greatest)

    def test_the_greatest(self):
        for lattice in regular_samples():
            for first in range(lattice.size):
                for second in range(lattice.size):
                    self.check_implies(lattice, first, second)

    def test_written_out(self):
        told = ChainLattice(4)
        self.assertEqual(str(Value.named(told, "2").implies(Value.named(told, "1"))), "1")
        self.assertEqual(str(Value.named(told, "1").implies(Value.named(told, "1"))), "3")
        told = corner()
        self.assertEqual(str(Value.named(told, "{b}").implies(Value.named(told, "{c}"))), "{c}")
        self.assertEqual(str(Value.named(told, "{a,b,c}").implies(Value.named(told, "{b,c}"))), "{b,c}")
        self.assertEqual(str(Value.bottom(told).implies(Value.bottom(told))), "{a,b,c}")

    def test_sixty_four_values(self):
        told = SetLattice(6)
        for first, second in ((0, 0), (63, 0), (21, 42), (60, 52)):
            self.assertEqual(Value(told, first).implies(Value(told, second)).place, 63 & ~first | second)


class TestPieces(unittest.TestCase):
    def test_every_class(self):
        for lattice in regular_samples():
            pieces = definitions.irreducibles(lattice)
            for value in whole(lattice):
                told = [lattice.name_at(k) for k in pieces if lattice.within_at(k, value.place)]
                self.assertIs(type(value.pieces), list)
                self.assertEqual(value.pieces, told)

    def test_written_out(self):
        self.assertEqual(Value.named(SetLattice(3), "110").pieces, ["010", "100"])
        self.assertEqual(Value.named(ChainLattice(12), "10").pieces, [str(k) for k in range(1, 11)])
        self.assertEqual(Value.named(corner(), "{b,c}").pieces, ["{b}", "{c}"])
        self.assertEqual(Value.top(corner()).pieces, ["{b}", "{c}", "{a,b,c}"])
        self.assertEqual(Value.named(TurnedLattice(ChainLattice(4)), "1").pieces, ["1", "2"])
        self.assertEqual(Value.named(OrderLattice(["t", "m", "o"], [("o", "m"), ("m", "t")]), "t").pieces, ["t", "m"])
        for lattice in regular_samples():
            self.assertEqual(Value.bottom(lattice).pieces, [])

    def test_the_value_is_the_join_of_its_pieces(self):
        for lattice in regular_samples():
            for value in whole(lattice):
                joined = Value.bottom(lattice)
                for name in value.pieces:
                    joined = joined | Value.named(lattice, name)
                self.assertEqual(joined, value)

    def test_the_list_is_the_callers(self):
        for lattice in (SetLattice(3), corner(), diamond(), TurnedLattice(ChainLattice(3)),
                        PairLattice(ChainLattice(2), ChainLattice(2))):
            value = Value.top(lattice)
            before, irreducibles = list(value.pieces), list(lattice.irreducibles())
            value.pieces.append("x")
            value.pieces.clear()
            self.assertEqual(value.pieces, before)
            self.assertEqual(lattice.irreducibles(), irreducibles)


if __name__ == "__main__":
    unittest.main()
