"""Points 18 and 19: states compared, and systems folded."""

import unittest

from latticewish.combined import PairLattice, TurnedLattice
from latticewish.comparing import alike, below, degree, folded, groups, matched
from latticewish.errors import NotIrreducible, UnknownState, UnknownValue
from latticewish.evaluation import value_at, values
from latticewish.families import ChainLattice, SetLattice
from latticewish.systems import System
from latticewish.truths import Value
from tests.formula_samples import OFTEN, REACH, STAY, depth, parts
from tests.meanings import meaning
from tests.samples import corner, diamond
from tests.system_samples import any_formula, any_name, any_system, bottom, dice, every_class, row, top

SETS = SetLattice(2)
PLAIN_WORDS = ("true", "false", "mark", "and", "or", "some", "all")


def greatest_pairs(system, j):
    """Point 18 for one irreducible value: all pairs, less those that a mark or a step shows to be none, to the end."""
    lattice = system.lattice

    def within(name):
        return lattice.within_at(j, lattice.at_name(name))

    marks = {(mark, state) for mark, state, name in system.marks() if within(name)}
    some = {state: {end for start, end, has, _ in system.arrows() if start == state and within(has)}
            for state in system.states()}
    every = {state: {end for start, end, _, lacks in system.arrows() if start == state and not within(lacks)}
             for state in system.states()}
    pairs = {(first, second) for first in system.states() for second in system.states()
             if all((mark, second) in marks for mark, state in marks if state == first)}
    while True:
        kept = {(first, second) for first, second in pairs
                if all(any((end, other) in pairs for other in some[second]) for end in some[first])
                and all(any((other, end) in pairs for other in every[first]) for end in every[second])}
        if kept == pairs:
            return pairs
        pairs = kept


def names(formula):
    """All words of a formula, each as often as it occurs."""
    return [formula[0]] + [word for part in formula[1:] if isinstance(part, tuple) for word in names(part)]


def copied(throws, system):
    """The system with a copy of one of its states, to and from which the same arrows lead."""
    old, new = throws.choice(system.states()), "copy"
    states = system.states()
    states.insert(throws.randrange(len(states) + 1), new)
    marks = system.marks() + [(mark, new, name) for mark, state, name in system.marks() if state == old]
    arrows = system.arrows()
    arrows += [(new, end, has, lacks) for start, end, has, lacks in system.arrows() if start == old]
    arrows += [(start, new, has, lacks) for start, end, has, lacks in arrows if end == old]
    return System(system.lattice, states, marks, arrows), old


class Comparing(unittest.TestCase):
    def check_system(self, system):
        lattice = system.lattice
        related = {j: greatest_pairs(system, j) for j in lattice.irreducibles()}
        for j, pairs in related.items():
            told = matched(system, lattice.name_at(j))
            self.assertIs(type(told), list)
            in_order = [(a, b) for a in system.states() for b in system.states() if (a, b) in pairs]
            self.assertEqual(told, in_order)
        for first in system.states():
            for second in system.states():
                against = [j for j in related if (first, second) not in related[j]]
                self.check_below(system, first, second, against)
                self.check_degree(system, first, second, against)
                both = not against and not [j for j in related if (second, first) not in related[j]]
                self.assertIs(alike(system, first, second), both)

    def check_below(self, system, first, second, against):
        lattice = system.lattice
        told = below(system, first, second)
        if not against:
            self.assertIsNone(told)
            return
        self.assertIs(type(told), tuple)
        formula, name = told
        self.assertIn(lattice.at_name(name), against)
        self.assertLessEqual(set(names(formula)), set(PLAIN_WORDS))
        found = meaning(system, formula)
        self.assertTrue(lattice.within_at(lattice.at_name(name), found[first]), formula)
        self.assertFalse(lattice.within_at(lattice.at_name(name), found[second]), formula)
        piece = Value.named(lattice, name)
        self.assertTrue(piece <= value_at(system, formula, first))
        self.assertFalse(piece <= value_at(system, formula, second))

    def check_degree(self, system, first, second, against):
        lattice = system.lattice
        fits = [place for place in range(lattice.size) if not any(lattice.within_at(j, place) for j in against)]
        greatest = [place for place in fits if all(lattice.within_at(other, place) for other in fits)]
        told = degree(system, first, second)
        self.assertIs(type(told), Value)
        self.assertEqual([told.place], greatest)
        self.assertEqual(told, Value(lattice, greatest[0]))
        self.assertEqual(told == Value.top(lattice), not against)


class TestComparing(Comparing):
    def test_any_systems(self):
        throws = dice(41)
        for number in range(150):
            lattice = throws.choice(every_class())
            self.check_system(any_system(throws, lattice, throws.randrange(5), throws.choice(("any", "row", "ring"))))

    def test_systems_of_six(self):
        throws = dice(42)
        for lattice in every_class():
            for shape in ("row", "ring", "any", "any"):
                self.check_system(any_system(throws, lattice, 6, shape))

    def test_thick_systems(self):
        throws = dice(43)
        for lattice in (ChainLattice(2), ChainLattice(3), SETS, diamond()):
            for number in range(0, 12, 2):
                states = [f"s{k}" for k in range(6)]
                ends = [(bottom(lattice), top(lattice)), (top(lattice), bottom(lattice)), (top(lattice), top(lattice))]
                arrows = [(start, end, *(throws.choice(ends))) for start in states for end in states
                          if throws.random() < 0.2 + number / 20]
                marks = [("m", state, any_name(throws, lattice)) for state in states if throws.random() < 0.4]
                self.check_system(System(lattice, states, marks, arrows))

    def test_row(self):
        system = row(ChainLattice(2), 6)
        for first in range(6):
            for second in range(6):
                self.assertEqual(alike(system, f"s{first}", f"s{second}"), first == second)
        self.check_system(system)
        self.assertEqual(below(system, "s5", "s4"), (("mark", "m"), "1"))
        formula, name = below(system, "s0", "s1")
        self.assertEqual(name, "1")
        self.assertLessEqual(parts(formula), 7)

    def test_a_state_with_itself(self):
        throws = dice(44)
        for lattice in every_class():
            system = any_system(throws, lattice, 4)
            for state in system.states():
                self.assertIsNone(below(system, state, state))
                self.assertIs(alike(system, state, state), True)
                self.assertEqual(degree(system, state, state), Value.top(lattice))

    def test_copies(self):
        throws = dice(45)
        for number in range(60):
            lattice = throws.choice(every_class())
            system, old = copied(throws, any_system(throws, lattice, throws.randrange(1, 6)))
            self.assertIs(alike(system, old, "copy"), True)
            self.assertIsNone(below(system, "copy", old))
            self.assertEqual(degree(system, old, "copy"), Value.top(lattice))
            self.check_system(system)

    def test_differences_in_all_ways(self):
        told = {
            "mark": ([("m", "a", "1")], []), "some": ([], [("a", "c", "1", "1")]),
            "all": ([], [("b", "c", "0", "0")]),
            "some of both": ([("m", "c", "1"), ("n", "d", "1")], [
                ("a", "c", "1", "1"), ("a", "d", "1", "1"), ("b", "c", "1", "1")]),
            "all of both": ([("m", "c", "1")], [("b", "c", "0", "0"), ("b", "d", "0", "0"), ("a", "c", "0", "0")])}
        for marks, arrows in told.values():
            system = System(ChainLattice(2), ["a", "b", "c", "d"], marks, arrows)
            self.assertIsNotNone(below(system, "a", "b"))
            self.check_system(system)
            self.check_system(System(ChainLattice(2), ["d", "c", "b", "a"], marks, arrows))

    def test_degree_of_what_needs_a_lesser_value(self):
        """Where only the lower of two irreducible values speaks against it, the upper one is too great as well."""
        system = System(ChainLattice(3), ["a", "b"], [("m", "a", "1")], [])
        self.assertEqual(str(degree(system, "a", "b")), "0")
        self.assertEqual(str(degree(system, "b", "a")), "2")
        self.assertEqual(matched(system, "2"), [("a", "a"), ("a", "b"), ("b", "a"), ("b", "b")])
        self.assertEqual(matched(system, "1"), [("a", "a"), ("b", "a"), ("b", "b")])
        upper = System(ChainLattice(3), ["a", "b"], [("m", "a", "2"), ("m", "b", "1")], [])
        self.assertEqual(str(degree(upper, "a", "b")), "1")
        self.assertEqual(below(upper, "a", "b"), (("mark", "m"), "2"))

    def test_no_formula_breaks_it(self):
        throws = dice(46)
        for number in range(150):
            lattice = throws.choice(every_class())
            system = any_system(throws, lattice, 3)
            formula = any_formula(throws, lattice, 6)
            for first in system.states():
                for second in system.states():
                    one, other = value_at(system, formula, first), value_at(system, formula, second)
                    self.assertTrue(degree(system, first, second) & one <= other)
                    if alike(system, first, second):
                        self.assertEqual(one, other)
                    for j in lattice.irreducibles():
                        if (first, second) in matched(system, lattice.name_at(j)) and Value(lattice, j) <= one:
                            self.assertTrue(Value(lattice, j) <= other)

    def test_no_states(self):
        system = System(SETS, [], [], [])
        self.assertEqual(matched(system, "01"), [])
        self.assertEqual(groups(system), [])
        self.assertEqual(folded(system).states(), [])

    def test_many_irreducible_values(self):
        throws = dice(47)
        for lattice in (ChainLattice(64), SetLattice(6), PairLattice(ChainLattice(8), corner())):
            system = any_system(throws, lattice, 4, "ring")
            for first in system.states():
                for second in system.states():
                    against = [j for j in lattice.irreducibles() if (first, second) not in greatest_pairs(system, j)]
                    self.check_below(system, first, second, against)
                    self.check_degree(system, first, second, against)

    def test_told_formulas_are_small(self):
        throws = dice(48)
        for number in range(60):
            system = any_system(throws, SETS, 6, throws.choice(("any", "row", "ring")))
            for first in system.states():
                for second in system.states():
                    told = below(system, first, second)
                    if told is not None:
                        self.assertLessEqual(parts(told[0]), 200)
                        self.assertLessEqual(depth(told[0]), 40)


class TestErrors(unittest.TestCase):
    def check_error(self, error, name, ask, *told):
        with self.assertRaises(error) as caught:
            ask(*told)
        self.assertIs(type(caught.exception), error)
        self.assertEqual(caught.exception.name, name)

    def test_unknown_states(self):
        for system in (row(SETS, 3), row(ChainLattice(1), 3)):
            for ask in (below, alike, degree):
                self.check_error(UnknownState, "x", ask, system, "x", "y")
                self.check_error(UnknownState, "x", ask, system, "x", "s0")
                self.check_error(UnknownState, "y", ask, system, "s0", "y")
                self.check_error(UnknownState, "y", ask, system, "y", "y")

    def test_no_states(self):
        for ask in (below, alike, degree):
            self.check_error(UnknownState, "a", ask, System(SETS, [], [], []), "a", "b")

    def test_matched(self):
        for system in (row(SETS, 2), System(SETS, [], [], [])):
            self.check_error(UnknownValue, "2", matched, system, "2")
            self.check_error(NotIrreducible, "00", matched, system, "00")
            self.check_error(NotIrreducible, "11", matched, system, "11")


class TestGroups(unittest.TestCase):
    def check_folded(self, throws, system):
        rows = groups(system)
        self.assertEqual([type(told) for told in rows], [list] * len(rows))
        self.assertEqual(sorted(state for told in rows for state in told), sorted(system.states()))
        numbers = {state: number for number, state in enumerate(system.states())}
        for told in rows:
            self.assertEqual(told, sorted(told, key=numbers.get))
            self.assertTrue(all(alike(system, told[0], state) for state in told))
        starts = [told[0] for told in rows]
        self.assertEqual(starts, sorted(starts, key=numbers.get))
        self.assertFalse(any(alike(system, one, other) for one in starts for other in starts if one != other))
        less = folded(system)
        self.assertIs(type(less), System)
        self.assertEqual(less.lattice.label, system.lattice.label)
        self.assertEqual(less.states(), starts)
        self.assertEqual(less.marks(), [mark for mark in system.marks() if mark[1] in starts])
        self.assertEqual(less.arrows(), self.wanted_arrows(system, rows))
        self.assertEqual(groups(less), [[state] for state in starts])
        for formula in [REACH, STAY, OFTEN] + [any_formula(throws, system.lattice, 6) for _ in range(4)]:
            before = values(system, formula)
            self.assertEqual(values(less, formula), {state: before[state] for state in starts})

    def wanted_arrows(self, system, rows):
        lattice, wanted = system.lattice, []
        for start in rows:
            for end in rows:
                told = [arrow for arrow in system.arrows() if arrow[0] == start[0] and arrow[1] in end]
                if told:
                    has, lacks = lattice.bottom_at, lattice.top_at
                    for arrow in told:
                        has = lattice.join_at(has, lattice.at_name(arrow[2]))
                        lacks = lattice.meet_at(lacks, lattice.at_name(arrow[3]))
                    wanted.append((start[0], end[0], lattice.name_at(has), lattice.name_at(lacks)))
        return wanted

    def test_any_systems(self):
        throws = dice(51)
        for number in range(150):
            lattice = throws.choice(every_class())
            system = any_system(throws, lattice, throws.randrange(6), throws.choice(("any", "row", "ring")))
            self.check_folded(throws, system)
            if system.states():
                self.check_folded(throws, copied(throws, system)[0])

    def test_by_hand(self):
        system = System(
            SETS, ["c", "a", "d", "b"], [("m", "b", "11"), ("n", "c", "10"), ("m", "d", "11"), ("k", "b", "00")],
            [("a", "b", "01", "10"), ("c", "d", "10", "11"), ("b", "b", "01", "11"), ("a", "d", "10", "01"),
             ("d", "b", "01", "11"), ("c", "a", "00", "10")])
        self.assertEqual(groups(system), [["c"], ["a"], ["d", "b"]])
        less = folded(system)
        self.assertEqual(less.states(), ["c", "a", "d"])
        self.assertEqual(less.marks(), [("n", "c", "10"), ("m", "d", "11")])
        self.assertEqual(less.arrows(), [
            ("c", "a", "00", "10"), ("c", "d", "10", "11"), ("a", "d", "11", "00"), ("d", "d", "01", "11")])

    def test_all_alike(self):
        for lattice in (ChainLattice(1), ChainLattice(2), TurnedLattice(SETS)):
            full = [(start, end, top(lattice), bottom(lattice)) for start in "cab" for end in "bca"]
            system = System(lattice, ["c", "a", "b"], [], full)
            self.assertEqual(groups(system), [["c", "a", "b"]])
            self.assertEqual(folded(system).arrows(), [("c", "c", top(lattice), bottom(lattice))])
            self.assertEqual(groups(System(lattice, ["c", "a", "b"], [], [])), [["c", "a", "b"]])

    def test_one_value_only(self):
        system = any_system(dice(52), ChainLattice(1), 5)
        self.assertEqual(groups(system), [system.states()])

    def test_system_stays_and_lists_are_the_callers(self):
        throws = dice(53)
        system, old = copied(throws, any_system(throws, SETS, 5))
        before = system.states(), system.marks(), system.arrows()
        for ask in (groups, lambda told: matched(told, "01")):
            answer, again = ask(system), ask(system)
            answer.clear()
            self.assertEqual(ask(system), again)
        groups(system)[0].append("z")
        folded(system).states().clear()
        below(system, old, "copy")
        degree(system, "copy", old)
        alike(system, old, "copy")
        self.assertNotIn("z", groups(system)[0])
        self.assertEqual((system.states(), system.marks(), system.arrows()), before)


if __name__ == "__main__":
    unittest.main()
