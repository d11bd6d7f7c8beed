"""Points 20 and 21: maps, systems carried and turned, formulas carried."""

import unittest
from itertools import product

from latticewish.combined import PairLattice, TurnedLattice
from latticewish.errors import BadLattice, BadMap, MixedLattices, NotIrreducible, UnknownValue
from latticewish.evaluation import value_at, values
from latticewish.families import ChainLattice, DownLattice, SetLattice
from latticewish.formulas import dual
from latticewish.judging import judge_paper
from latticewish.labels import read_lattice
from latticewish.maps import LatticeMap, carried, carried_formula, turned
from latticewish.papers import paper_of
from latticewish.systems import System
from latticewish.truths import Value
from tests.formula_samples import OFTEN, REACH, STAY
from tests.samples import corner, diamond, regular_samples
from tests.system_samples import any_formula, any_nested, any_system, dice, every_class

TWO, THREE, SETS = ChainLattice(2), ChainLattice(3), SetLattice(2)


def names(lattice):
    return [lattice.name_at(place) for place in range(lattice.size)]


def fault(source, target, images):
    """Point 20's fault, worked out from the words."""
    led = [target.at_name(name) for name in images]
    if led[source.bottom_at] != target.bottom_at:
        return "bottom", ()
    if led[source.top_at] != target.top_at:
        return "top", ()
    for word, inside, outside in (("join", source.join_at, target.join_at), ("meet", source.meet_at, target.meet_at)):
        for a, b in product(range(source.size), repeat=2):
            if led[inside(a, b)] != outside(led[a], led[b]):
                return word, (source.name_at(a), source.name_at(b))
    return None


def left_half(lattice):
    """The map from pairs to their left halves."""
    images = [lattice.left.name_at(place // lattice.right.size) for place in range(lattice.size)]
    return LatticeMap(lattice, lattice.left, images)


class TestMaps(unittest.TestCase):
    def test_attributes_and_images(self):
        m = LatticeMap(THREE, SETS, ["00", "01", "11"])
        self.assertIs(m.source, THREE)
        self.assertIs(m.target, SETS)
        self.assertEqual([m.image(name) for name in "012"], ["00", "01", "11"])
        for place, name in enumerate(["00", "01", "11"]):
            image = m(Value(THREE, place))
            self.assertIs(type(image), Value)
            self.assertEqual(image, Value.named(SETS, name))
            self.assertEqual(m(Value(read_lattice("(chain 3)"), place)), Value.named(SETS, name))

    def test_bad_maps(self):
        for images in ([], ["00"], ["00", "01"], ["00", "01", "10", "11"], ["2"], ["2", "3"], ["x"] * 4):
            with self.assertRaises(BadMap):
                LatticeMap(THREE, SETS, images)
        for images, name in ((["00", "2", "3"], "2"), (["x", "01", "y"], "x"), (["00", "01", ""], "")):
            with self.assertRaises(UnknownValue) as caught:
                LatticeMap(THREE, SETS, images)
            self.assertEqual(caught.exception.name, name)

    def test_unknown_value(self):
        m = LatticeMap(THREE, SETS, ["00", "01", "11"])
        for name in ("3", "00", "", "x"):
            with self.assertRaises(UnknownValue) as caught:
                m.image(name)
            self.assertEqual(caught.exception.name, name)

    def test_mixed_lattices(self):
        m = LatticeMap(THREE, SETS, ["00", "01", "11"])
        for lattice in (SETS, TWO, ChainLattice(4), TurnedLattice(TurnedLattice(THREE))):
            with self.assertRaises(MixedLattices):
                m(Value(lattice, 0))

    def test_every_map_between_small_lattices(self):
        for source, target in ((TWO, THREE), (THREE, TWO), (SETS, TWO), (TWO, SETS), (THREE, SETS), (SETS, THREE),
                               (diamond(), SETS), (TurnedLattice(THREE), THREE), (ChainLattice(1), TWO),
                               (THREE, ChainLattice(1)), (corner(), TWO)):
            for images in product(names(target), repeat=source.size):
                m = LatticeMap(source, target, list(images))
                self.assertEqual(m.fault(), fault(source, target, images))
                self.assertEqual([m.image(name) for name in names(source)], list(images))

    def test_each_fault(self):
        self.assertEqual(LatticeMap(SETS, TWO, ["1", "1", "1", "1"]).fault(), ("bottom", ()))
        self.assertEqual(LatticeMap(SETS, TWO, ["1", "0", "0", "0"]).fault(), ("bottom", ()))
        self.assertEqual(LatticeMap(SETS, TWO, ["0", "1", "1", "0"]).fault(), ("top", ()))
        self.assertEqual(LatticeMap(SETS, TWO, ["0", "0", "0", "1"]).fault(), ("join", ("01", "10")))
        self.assertEqual(LatticeMap(SETS, TWO, ["0", "1", "1", "1"]).fault(), ("meet", ("01", "10")))
        self.assertEqual(LatticeMap(ChainLattice(4), ChainLattice(4), list("0213")).fault(), ("join", ("1", "2")))
        self.assertIsNone(LatticeMap(SETS, TWO, ["0", "1", "0", "1"]).fault())
        self.assertEqual(LatticeMap(TWO, SETS, ["00", "01"]).fault(), ("top", ()))

    def test_same(self):
        for lattice in regular_samples():
            m = LatticeMap.same(lattice)
            self.assertIs(type(m), LatticeMap)
            self.assertEqual((m.source.label, m.target.label), (lattice.label, lattice.label))
            self.assertIsNone(m.fault())
            for name in names(lattice):
                self.assertEqual(m.image(name), name)
                self.assertEqual(m(Value.named(lattice, name)), Value.named(lattice, name))

    def test_cut(self):
        for lattice in regular_samples():
            for place in range(lattice.size):
                name = lattice.name_at(place)
                if place in lattice.irreducibles():
                    m = LatticeMap.cut(lattice, name)
                    self.assertIs(type(m), LatticeMap)
                    self.assertEqual((m.source.label, m.target.label), (lattice.label, "(chain 2)"))
                    self.assertIsNone(m.fault())
                    for other in range(lattice.size):
                        wanted = "1" if lattice.within_at(place, other) else "0"
                        self.assertEqual(m.image(lattice.name_at(other)), wanted)
                else:
                    with self.assertRaises(NotIrreducible) as caught:
                        LatticeMap.cut(lattice, name)
                    self.assertEqual(caught.exception.name, name)
            with self.assertRaises(UnknownValue) as caught:
                LatticeMap.cut(lattice, "nobody")
            self.assertEqual(caught.exception.name, "nobody")

    def test_one_after_the_other(self):
        first = LatticeMap(THREE, SETS, ["00", "01", "11"])
        second = LatticeMap(SETS, TWO, ["0", "1", "0", "1"])
        both = second * first
        self.assertIs(type(both), LatticeMap)
        self.assertEqual((both.source.label, both.target.label), ("(chain 3)", "(chain 2)"))
        self.assertEqual([both.image(name) for name in "012"], ["0", "1", "1"])
        self.assertTrue(both == LatticeMap(THREE, TWO, ["0", "1", "1"]))
        again = LatticeMap(read_lattice("(chain 2)"), THREE, ["0", "2"])
        self.assertEqual([(again * both).image(name) for name in "012"], ["0", "2", "2"])
        for one, other in ((first, second), (first, first), (second, second), (both, both)):
            with self.assertRaises(MixedLattices):
                one * other
        self.assertTrue(LatticeMap.same(SETS) * first == first)
        self.assertTrue(first * LatticeMap.same(THREE) == first)

    def test_composition_is_image_of_image(self):
        for images in product("012", repeat=3):
            for others in product("012", repeat=3):
                m, n = LatticeMap(THREE, THREE, list(images)), LatticeMap(THREE, THREE, list(others))
                self.assertEqual([(m * n).image(name) for name in "012"], [m.image(n.image(name)) for name in "012"])

    def test_equal(self):
        m = LatticeMap(THREE, SETS, ["00", "01", "11"])
        self.assertIs(m == LatticeMap(read_lattice("(chain 3)"), read_lattice("(sets 2)"), ["00", "01", "11"]), True)
        others = [
            LatticeMap(THREE, SETS, ["00", "10", "11"]), LatticeMap(THREE, THREE, list("012")),
            LatticeMap(TurnedLattice(TurnedLattice(THREE)), SETS, ["00", "01", "11"]), None, 1, "m", (), [],
            LatticeMap(THREE, ChainLattice(4), list("013")), Value(THREE, 0), THREE]
        for other in others:
            self.assertIs(m == other, False)
            self.assertIs(m != other, True)
        here, there = LatticeMap(THREE, ChainLattice(3), list("012")), LatticeMap(THREE, ChainLattice(4), list("012"))
        self.assertIs(here == there, False)
        self.assertIs(LatticeMap(TurnedLattice(THREE), THREE, list("012")) == here, False)
        self.assertIs(Value(THREE, 0) == m, False)

    def test_images_stay_and_are_not_kept(self):
        images = ["00", "01", "11"]
        m = LatticeMap(THREE, SETS, images)
        self.assertEqual(images, ["00", "01", "11"])
        images[1] = "10"
        images.clear()
        self.assertEqual([m.image(name) for name in "012"], ["00", "01", "11"])
        bad = ["00", "x", "y"]
        with self.assertRaises(UnknownValue):
            LatticeMap(THREE, SETS, bad)
        self.assertEqual(bad, ["00", "x", "y"])


class TestCarried(unittest.TestCase):
    def faultless(self, lattice):
        found = [LatticeMap.same(lattice)] + [LatticeMap.cut(lattice, name) for name in irreducible_names(lattice)]
        if isinstance(lattice, PairLattice):
            found.append(left_half(lattice))
        return found

    def test_values_of_the_carried_formula(self):
        throws = dice(61)
        for lattice in every_class():
            for m in self.faultless(lattice):
                self.assertIsNone(m.fault())
                system = any_system(throws, lattice, 4, throws.choice(("any", "ring")))
                other = carried(m, system)
                for formula in (REACH, STAY, OFTEN, any_formula(throws, lattice, 6), any_nested(throws, lattice, 3)):
                    wanted = {state: m.image(name) for state, name in values(system, formula).items()}
                    self.assertEqual(values(other, carried_formula(m, formula)), wanted)

    def test_in_the_same_order(self):
        throws = dice(62)
        for lattice in every_class():
            system = any_system(throws, lattice, 5)
            for m in self.faultless(lattice):
                other = carried(m, system)
                self.assertIs(type(other), System)
                self.assertEqual(other.lattice.label, m.target.label)
                self.assertEqual(other.states(), system.states())
                self.assertEqual(other.marks(), [(mark, at, m.image(name)) for mark, at, name in system.marks()])
                self.assertEqual(other.arrows(), [(start, end, m.image(has), m.image(lacks))
                                                  for start, end, has, lacks in system.arrows()])

    def test_map_with_a_fault(self):
        m = LatticeMap(TWO, THREE, ["1", "0"])
        system = System(TWO, ["a", "b"], [("m", "a", "0")], [("a", "b", "1", "0")])
        other = carried(m, system)
        self.assertEqual((other.marks(), other.arrows()), ([("m", "a", "1")], [("a", "b", "0", "1")]))
        self.assertEqual(str(other.mark_at("m", "b")), "0")

    def test_mixed_lattices(self):
        m = LatticeMap.same(THREE)
        for lattice in (TWO, SETS, TurnedLattice(TurnedLattice(THREE))):
            with self.assertRaises(MixedLattices):
                carried(m, System(lattice, [], [], []))
        self.assertEqual(carried(m, System(read_lattice("(chain 3)"), ["s"], [], [])).states(), ["s"])

    def test_formulas(self):
        m = LatticeMap(THREE, SETS, ["00", "01", "11"])
        formula = ("least", "x", ("or", ("and", ("value", "1"), ("name", "x")), ("some", ("all", ("value", "2")))))
        self.assertEqual(carried_formula(m, formula), (
            "least", "x", ("or", ("and", ("value", "01"), ("name", "x")), ("some", ("all", ("value", "11"))))))
        for formula in (REACH, STAY, OFTEN, ("name", "x"), ("mark", "1"), ("true",), ("false",)):
            self.assertEqual(carried_formula(m, formula), formula)
        self.assertEqual(carried_formula(m, ("value", "0")), ("value", "00"))

    def test_formulas_with_unknown_values(self):
        m = LatticeMap(THREE, SETS, ["00", "01", "11"])
        for formula, name in ((("value", "3"), "3"), (("and", ("value", "01"), ("value", "7")), "01"),
                              (("or", ("some", ("value", "1")), ("all", ("value", "8"))), "8")):
            with self.assertRaises(UnknownValue) as caught:
                carried_formula(m, formula)
            self.assertEqual(caught.exception.name, name)

    def test_deep_formula(self):
        formula = ("value", "2")
        for _ in range(79):
            formula = ("some", formula)
        wanted = ("value", "11")
        for _ in range(79):
            wanted = ("some", wanted)
        self.assertEqual(carried_formula(LatticeMap(THREE, SETS, ["00", "01", "11"]), formula), wanted)


def irreducible_names(lattice):
    return [lattice.name_at(place) for place in lattice.irreducibles()]


def every_mark_told(system):
    """The system with the marks of the samples told at one state at least."""
    told = {mark for mark, _, _ in system.marks()}
    state, low = system.states()[0], system.lattice.name_at(system.lattice.bottom_at)
    more = [(mark, state, low) for mark in ("m", "n", "k") if mark not in told]
    return System(system.lattice, system.states(), system.marks() + more, system.arrows())


class TestTurned(unittest.TestCase):
    def test_by_hand(self):
        system = System(THREE, ["b", "a", "c"], [("n", "c", "1"), ("m", "a", "2"), ("n", "b", "0"), ("k", "c", "2")],
                        [("b", "a", "1", "2"), ("a", "a", "0", "1")])
        other = turned(system)
        self.assertIs(type(other), System)
        self.assertEqual(other.lattice.label, "(turned (chain 3))")
        self.assertEqual(other.states(), ["b", "a", "c"])
        self.assertEqual(other.arrows(), [("b", "a", "2", "1"), ("a", "a", "1", "0")])
        self.assertEqual(other.marks(), [
            ("n", "c", "1"), ("m", "a", "2"), ("n", "b", "0"), ("k", "c", "2"),
            ("n", "a", "0"), ("m", "b", "0"), ("m", "c", "0"), ("k", "b", "0"), ("k", "a", "0")])

    def test_marks_told_everywhere_or_nowhere(self):
        throws = dice(63)
        for lattice in every_class():
            system = any_system(throws, lattice, 5)
            other, count = turned(system), len(system.marks())
            self.assertEqual(other.marks()[:count], system.marks())
            marks = list(dict.fromkeys(mark for mark, _, _ in system.marks()))
            told = [(mark, state) for mark, state, _ in system.marks()]
            low = lattice.name_at(lattice.bottom_at)
            self.assertEqual(other.marks()[count:], [
                (mark, state, low) for mark in marks for state in system.states() if (mark, state) not in told])
            for mark in marks:
                for state in system.states():
                    self.assertEqual(str(other.mark_at(mark, state)), str(system.mark_at(mark, state)))

    def test_dual_has_the_same_values(self):
        throws = dice(64)
        for number in range(200):
            lattice = throws.choice(every_class())
            shape = throws.choice(("any", "ring"))
            system = every_mark_told(any_system(throws, lattice, throws.randrange(1, 5), shape))
            for formula in (OFTEN, any_formula(throws, lattice, 6), any_nested(throws, lattice, 3)):
                self.assertEqual(values(turned(system), dual(formula)), values(system, formula))

    def test_papers_with_the_other_side(self):
        throws = dice(65)
        for number in range(120):
            lattice = throws.choice(every_class()[:-1])
            shape = throws.choice(("any", "ring"))
            system = every_mark_told(any_system(throws, lattice, throws.randrange(1, 5), shape))
            others = any_formula(throws, lattice, 6), any_nested(throws, lattice, 3)
            formula = throws.choice((REACH, STAY, OFTEN) + others)
            for j in lattice.irreducibles():
                # The greatest value that j does not lie within.
                fits = [place for place in range(lattice.size) if not lattice.within_at(j, place)]
                best = [place for place in fits if all(lattice.within_at(other, place) for other in fits)]
                state, name = throws.choice(system.states()), lattice.name_at(best[0])
                side, lines = paper_of(system, formula, state, lattice.name_at(j))
                other = ("no" if side == "yes" else "yes", lines)
                self.assertTrue(judge_paper(turned(system), dual(formula), state, name, other))
                self.assertFalse(judge_paper(turned(system), dual(formula), state, name, (side, lines)))

    def test_a_mark_that_is_told_nowhere(self):
        system = turned(System(TWO, ["a"], [], []))
        self.assertEqual(system.marks(), [])
        self.assertEqual(str(value_at(system, ("mark", "m"), "a")), "1")

    def test_turned_twice(self):
        system = System(SETS, ["a", "b"], [("m", "a", "01"), ("m", "b", "00")], [("a", "b", "01", "10")])
        again = turned(turned(system))
        self.assertEqual(again.lattice.label, "(turned (turned (sets 2)))")
        self.assertEqual((again.marks(), again.arrows()), (system.marks(), system.arrows()))

    def test_too_deep(self):
        lattice = DownLattice(["a"], [])
        for _ in range(9):
            lattice = turned(System(lattice, ["s"], [("m", "s", "{a}")], [])).lattice
        with self.assertRaises(BadLattice):
            turned(System(lattice, ["s"], [], []))

    def test_system_stays(self):
        throws = dice(66)
        system = any_system(throws, SETS, 4)
        before = system.states(), system.marks(), system.arrows()
        for other in (turned(system), carried(LatticeMap.same(SETS), system)):
            other.marks().clear()
            other.states().append("z")
            self.assertEqual((system.states(), system.marks(), system.arrows()), before)
            self.assertEqual(other.states(), before[0])


if __name__ == "__main__":
    unittest.main()
