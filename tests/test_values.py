"""Points 13 and 14: values, value_at, rounds."""

import time
import unittest
from unittest import mock

from latticewish.combined import PairLattice, TurnedLattice
from latticewish.errors import UnboundName, UnknownState, UnknownValue
from latticewish.evaluation import rounds, value_at, values
from latticewish.families import ChainLattice, SetLattice
from latticewish.formulas import simpler, unfolded
from latticewish.labels import read_lattice
from latticewish.reader import read_formula
from latticewish.systems import System
from latticewish.truths import Value
from latticewish.working import Working
from latticewish.writer import write_formula
from tests.formula_samples import OFTEN, REACH, STAY, depth, parts
from tests.meanings import all_rounds, meaning, names_of
from tests.samples import diamond, regular_samples
from tests.system_samples import any_formula, any_nested, any_system, bottom, dice, every_class, row, top

SETS = SetLattice(2)
SMALL = System(SETS, ["b", "a", "c"], [("m", "a", "01"), ("m", "b", "11"), ("n", "c", "10")],
               [("b", "a", "01", "10"), ("a", "a", "11", "00"), ("b", "c", "10", "01"), ("c", "b", "01", "01")])
# Worked out by hand: the values at b, a and c.
BY_HAND = (
    ("true", "11", "11", "11"), ("false", "00", "00", "00"), ("(value 10)", "10", "10", "10"),
    ("(mark m)", "11", "01", "00"), ("(mark n)", "00", "00", "10"), ("(mark k)", "00", "00", "00"),
    ("(and (mark m) (value 10))", "10", "00", "00"), ("(or (mark m) (mark n))", "11", "01", "10"),
    ("(some (mark m))", "01", "01", "01"), ("(all (mark m))", "01", "01", "11"), ("(some true)", "11", "11", "01"),
    ("(all false)", "00", "00", "01"), ("(least x x)", "00", "00", "00"), ("(most x x)", "11", "11", "11"),
    ("(least x (or (mark n) (some x)))", "10", "00", "10"), ("(most x (and (mark m) (some x)))", "01", "01", "00"),
    ("(most x (some x))", "01", "11", "01"))
NESTED = (
    "(most a (least b (most c (least d (or (and (mark m) (some a)) "
    "(or (and (mark n) (some b)) (and (some c) (all d))))))))",
    "(least d (most c (least b (most a (and (or (mark n) (all d)) "
    "(and (or (mark m) (some c)) (or (some b) (all a))))))))",
    "(least a (least b (least c (least d (or (mark m) (some (or a (and b (or c d)))))))))",
    "(most a (most b (most c (most d (and (or (mark n) (mark m)) (all (and a (or b (and c d)))))))))",
    "(most a (least b (or (and (mark m) (some a)) (or (all b) (least c (or (and a (mark n)) (some c)))))))",
    "(least x (or (mark m) (most x (and (some x) (or (mark n) (least x (or (mark m) (all x))))))))",
    "(least x (most y (or (and (mark m) (some x)) (most x (and y (all (or x (mark n))))))))")


def deepest_binders(formula):
    inner = [deepest_binders(part) for part in formula[1:] if isinstance(part, tuple)]
    return max(inner, default=0) + (formula[0] in ("least", "most"))


def largest(word, step):
    """A formula of 200 parts, 40 deep, with four binders in one another, all of whose names lead on by a step."""
    formula = (step, (step, (step, ("mark", "m"))))
    for level in range(32):
        led = (step, ("some", ("name", "abcd"[level % 4])))
        formula = ("or", ("and", ("mark", "mnk"[level % 3]), led), formula)
    for name in "dcba":
        formula = (word, name, formula)
        word = {"least": "most", "most": "least"}[word]
    return formula


class Values(unittest.TestCase):
    def check_values(self, system, formula):
        wanted = names_of(system, meaning(system, formula))
        told = values(system, formula)
        self.assertEqual(told, wanted, (system.lattice.label, formula))
        self.assertIs(type(told), dict)
        self.assertEqual(list(told), system.states())
        for state in system.states():
            value = value_at(system, formula, state)
            self.assertIs(type(value), Value)
            self.assertEqual(value, Value.named(system.lattice, wanted[state]))

    def check_rounds(self, system, formula):
        told = rounds(system, formula)
        self.assertIs(type(told), int)
        if formula[0] in ("least", "most"):
            self.assertEqual(told, len(all_rounds(system, formula)) - 1, formula)
            self.assertLessEqual(told, len(system.states()))
        else:
            self.assertEqual(told, 0)


class TestValues(Values):
    def test_by_hand(self):
        for text, *wanted in BY_HAND:
            self.assertEqual(values(SMALL, read_formula(text)), dict(zip("bac", wanted)), text)
            self.assertEqual(list(values(SMALL, read_formula(text))), ["b", "a", "c"])
            self.check_values(SMALL, read_formula(text))

    def test_every_class_of_lattice(self):
        throws = dice(2)
        for lattice in regular_samples():
            for many in (1, 2, 4):
                system = any_system(throws, lattice, many)
                for text, *_ in BY_HAND:
                    if "value" not in text:
                        self.check_values(system, read_formula(text))
                for place in range(lattice.size):
                    self.check_values(system, ("and", ("value", lattice.name_at(place)), ("mark", "m")))
                    self.check_values(system, ("all", ("or", ("value", lattice.name_at(place)), ("mark", "n"))))

    def test_any_formulas(self):
        throws = dice(3)
        for number in range(1200):
            lattice = throws.choice(every_class())
            system = any_system(throws, lattice, throws.randrange(6), throws.choice(("any", "any", "row", "ring")))
            formula = any_formula(throws, lattice, throws.randrange(1, 8))
            self.check_values(system, formula)
            self.check_rounds(system, formula)

    def test_binders_in_one_another(self):
        throws = dice(4)
        for text in NESTED:
            formula = read_formula(text)
            for lattice in (ChainLattice(2), ChainLattice(5), SETS, diamond(), TurnedLattice(SETS)):
                for shape in ("row", "ring", "any"):
                    system = any_system(throws, lattice, 4, shape)
                    self.check_values(system, formula)
                    self.check_rounds(system, formula)

    def test_what_held_itself_does_not_stay(self):
        """In a later round of the outer name the inner one must not hold by itself, from what it was before."""
        system = System(SETS, ["a", "b", "c", "d"], [("m", "c", "11"), ("n", "a", "01"), ("n", "b", "11")], [
            ("a", "b", "11", "00"), ("b", "a", "01", "10"), ("b", "c", "11", "00"), ("c", "d", "11", "00")])
        again = "(most y (least x (or (and (mark m) (some y)) (some x))))"
        for text in (again, "(least y (most x (and (or (mark n) (all y)) (all x))))",
                     "(most y (some (least x (or y x))))", "(least y (all (most x (and y x))))"):
            self.check_values(system, read_formula(text))
            self.check_rounds(system, read_formula(text))
        self.assertEqual(set(values(system, read_formula(again)).values()), {"00"})

    def test_any_binders_in_one_another(self):
        throws = dice(12)
        for number in range(1500):
            lattice = throws.choice((ChainLattice(2), ChainLattice(3), SETS, diamond()))
            system = any_system(throws, lattice, throws.randrange(2, 5), throws.choice(("any", "any", "ring")))
            formula = any_nested(throws, lattice, throws.randrange(2, 5))
            self.check_values(system, formula)
            self.check_rounds(system, formula)

    def test_samples(self):
        for lattice in every_class():
            for system in (row(lattice, 5), row(lattice, 5, ring=True), row(lattice, 1), row(lattice, 1, ring=True)):
                for formula in (REACH, STAY, OFTEN):
                    self.check_values(system, formula)
                    self.check_rounds(system, formula)
        once = values(row(ChainLattice(2), 4), OFTEN)
        self.assertEqual(set(once.values()), {"0"})
        self.assertEqual(set(values(row(ChainLattice(2), 4, ring=True), OFTEN).values()), {"1"})

    def test_a_name_bound_twice(self):
        for text in ("(least x (or (mark m) (some (most x (and x (mark n))))))", "(most x (least x (or x (mark m))))",
                     "(least x (or (most x x) x))", "(most x (and (least x (or (mark m) (some x))) (some x)))"):
            self.check_values(SMALL, read_formula(text))
            self.check_rounds(SMALL, read_formula(text))

    def test_no_states(self):
        system = System(SETS, [], [], [])
        for formula in (("true",), ("mark", "m"), REACH, OFTEN, ("value", "01")):
            self.assertEqual(values(system, formula), {})
            self.assertEqual(rounds(system, formula), 0)

    def test_one_value(self):
        for lattice in (ChainLattice(1), PairLattice(ChainLattice(1), ChainLattice(1))):
            self.assertEqual(set(values(row(lattice, 3), OFTEN).values()), {lattice.name_at(0)})
            self.assertEqual(rounds(row(lattice, 3), REACH), 0)

    def test_lattice_read_anew(self):
        throws = dice(5)
        for lattice in every_class():
            system = any_system(throws, lattice, 4)
            again = read_lattice(lattice.label)
            other = System(again, system.states(), system.marks(), system.arrows())
            for formula in (REACH, STAY, OFTEN):
                for state, name in values(system, formula).items():
                    self.assertEqual(value_at(system, formula, state), value_at(other, formula, state))
                    self.assertEqual(value_at(system, formula, state), Value.named(again, name))

    def test_same_values_of_other_forms(self):
        throws = dice(6)
        for number in range(400):
            lattice = throws.choice(every_class())
            system = any_system(throws, lattice, throws.randrange(1, 6), throws.choice(("any", "row", "ring")))
            formula = any_formula(throws, lattice, throws.randrange(2, 7))
            wanted = values(system, formula)
            self.assertEqual(values(system, unfolded(formula)), wanted, formula)
            self.assertEqual(values(system, simpler(formula)), wanted, formula)
            self.assertEqual(values(system, read_formula(write_formula(formula))), wanted, formula)

    def test_many_irreducible_values(self):
        throws = dice(7)
        for lattice in (ChainLattice(64), SetLattice(6), PairLattice(ChainLattice(8), SetLattice(3))):
            system = any_system(throws, lattice, 7, "ring")
            for text in NESTED[:2]:
                self.check_values(system, read_formula(text))

    def test_deep_lattice(self):
        lattice = SetLattice(4)
        for _ in range(9):
            lattice = TurnedLattice(lattice)
        self.check_values(any_system(dice(8), lattice, 5), OFTEN)


class TestLimits(Values):
    def test_largest_formulas(self):
        formulas = [largest(word, step) for word in ("least", "most") for step in ("some", "all")]
        for formula in formulas:
            self.assertEqual((parts(formula), depth(formula), deepest_binders(formula)), (200, 40, 4))
        begin = time.monotonic()
        throws = dice(9)
        for lattice in (ChainLattice(2), ChainLattice(64), SetLattice(6)):
            for many in (8, 70):
                for shape in ("row", "ring", "any"):
                    system = any_system(throws, lattice, many, shape)
                    for formula in formulas:
                        self.assertEqual(len(values(system, formula)), many)
                        self.assertLessEqual(rounds(system, formula), many)
        self.assertLess(time.monotonic() - begin, 30)

    def test_largest_formulas_on_few_states(self):
        throws = dice(10)
        for word in ("least", "most"):
            self.check_values(any_system(throws, ChainLattice(3), 2, "ring"), largest(word, "some"))

    def test_long_rounds_within_long_rounds(self):
        """Four stretches of a row, along each of which another name goes; so each binder begins again very often."""
        for word, step, told in (("most", "some", "1"), ("least", "all", "0")):
            other = {"1": "0", "0": "1"}[told]
            states = [f"s{k}" for k in range(48)]
            marks = [(mark, state, told if "dcba"[k // 12] == mark else other)
                     for k, state in enumerate(states) for mark in "abcd"]
            system = System(ChainLattice(2), states, marks, [(a, b, "1", "0") for a, b in zip(states, states[1:])])
            go, beside = {"1": ("and", "or"), "0": ("or", "and")}[told]
            formula = {"1": ("false",), "0": ("true",)}[told]
            for name in "abcd":
                formula = (beside, (go, ("mark", name), (step, ("name", name))), formula)
            for name in "dcba":
                word = {"least": "most", "most": "least"}[word]
                formula = (word, name, formula)
            worked = Working._worked_out
            with mock.patch.object(Working, "_worked_out", autospec=True, side_effect=worked) as counted:
                self.assertEqual(set(values(system, formula).values()), {other})
            self.assertLess(counted.call_count, 40000)

    def test_deep_formulas_without_binders(self):
        formula = ("mark", "m")
        for level in range(39):
            formula = (("some", formula), ("all", formula))[level % 2]
        for shape in ("row", "ring", "any"):
            self.check_values(any_system(dice(11), SETS, 6, shape), formula)


class TestRounds(Values):
    def test_row_of_seventy(self):
        for lattice in (ChainLattice(2), ChainLattice(64), SetLattice(6), TurnedLattice(ChainLattice(3))):
            system = row(lattice, 70)
            self.assertEqual(rounds(system, REACH), 70)
            self.assertEqual(set(values(system, REACH).values()), {top(lattice)})
            self.assertEqual(rounds(system, ("most", "x", ("some", ("name", "x")))), 70)
            self.assertEqual(rounds(system, ("least", "x", ("all", ("name", "x")))), 70)
            self.assertEqual(rounds(system, ("most", "x", ("all", ("name", "x")))), 0)
            self.assertEqual(rounds(system, STAY), 1)
            self.assertEqual(rounds(system, OFTEN), 1)
            self.assertEqual(set(values(system, OFTEN).values()), {bottom(lattice)})

    def test_ring_of_seventy(self):
        system = row(SetLattice(6), 70, ring=True)
        self.assertEqual(rounds(system, REACH), 70)
        self.assertEqual(rounds(system, OFTEN), 0)

    def test_row_by_steps(self):
        for many in range(1, 8):
            self.assertEqual(rounds(row(SETS, many), REACH), many)
            self.check_rounds(row(SETS, many), OFTEN)

    def test_other_formulas(self):
        for formula in (("true",), ("value", "01"), ("some", REACH), ("all", STAY), ("and", REACH, OFTEN),
                        ("or", REACH, STAY), ("mark", "m")):
            self.assertEqual(rounds(SMALL, formula), 0)

    def test_nothing_changes(self):
        self.assertEqual(rounds(SMALL, ("least", "x", ("name", "x"))), 0)
        self.assertEqual(rounds(SMALL, ("most", "x", ("or", ("name", "x"), ("mark", "m")))), 0)
        self.assertEqual(rounds(SMALL, ("least", "x", ("mark", "m"))), 1)


class TestErrors(unittest.TestCase):
    def check_error(self, error, name, formula, system=SMALL):
        asks = [lambda: values(system, formula), lambda: rounds(system, formula)]
        asks += [lambda state=state: value_at(system, formula, state) for state in system.states()]
        for ask in asks:
            with self.assertRaises(error) as caught:
                ask()
            self.assertIs(type(caught.exception), error)
            self.assertEqual(caught.exception.name, name)

    def test_unknown_value(self):
        for name in ("2", "1", "000", "x", "{}"):
            self.check_error(UnknownValue, name, ("value", name))
            self.check_error(UnknownValue, name, ("least", "x", ("or", ("name", "x"), ("some", ("value", name)))))

    def test_unbound_name(self):
        self.check_error(UnboundName, "x", ("name", "x"))
        self.check_error(UnboundName, "y", ("least", "x", ("and", ("name", "x"), ("all", ("name", "y")))))
        self.check_error(UnboundName, "x", ("and", ("least", "x", ("name", "x")), ("name", "x")))
        self.check_error(UnboundName, "x", ("or", ("name", "x"), ("most", "x", ("name", "x"))))

    def test_the_first_of_both(self):
        value, name = ("value", "9"), ("name", "z")
        self.check_error(UnknownValue, "9", ("and", value, name))
        self.check_error(UnboundName, "z", ("and", name, value))
        self.check_error(UnboundName, "z", ("or", ("some", ("all", name)), value))
        self.check_error(UnknownValue, "9", ("or", ("least", "z", ("and", name, value)), name))
        self.check_error(UnboundName, "z", ("and", ("and", ("true",), name), ("and", value, name)))
        self.check_error(UnknownValue, "9", ("or", ("value", "9"), ("value", "8")))
        self.check_error(UnboundName, "y", ("least", "z", ("and", name, ("and", ("name", "y"), value))))

    def test_under_a_binder_of_the_same_name(self):
        self.check_error(UnboundName, "x", ("or", ("least", "y", ("name", "x")), ("least", "x", ("name", "x"))))
        self.check_error(UnknownValue, "x", ("least", "x", ("or", ("name", "x"), ("value", "x"))))

    def test_no_states(self):
        self.check_error(UnknownValue, "9", ("value", "9"), System(SETS, [], [], []))
        self.check_error(UnboundName, "x", ("some", ("name", "x")), System(SETS, [], [], []))

    def test_unknown_state(self):
        for formula in (("true",), ("value", "9"), ("name", "z"), OFTEN):
            for state in ("z", "", "m", "A"):
                with self.assertRaises(UnknownState) as caught:
                    value_at(SMALL, formula, state)
                self.assertEqual(caught.exception.name, state)
        with self.assertRaises(UnknownState):
            value_at(System(SETS, [], [], []), ("true",), "a")


class TestArguments(unittest.TestCase):
    def test_dict_is_the_callers(self):
        answer = values(SMALL, REACH)
        before = dict(answer)
        answer.clear()
        answer["z"] = "01"
        self.assertEqual(values(SMALL, REACH), before)
        self.assertEqual(SMALL.states(), ["b", "a", "c"])

    def test_system_stays(self):
        system = System(SETS, SMALL.states(), SMALL.marks(), SMALL.arrows())
        for ask in (values, rounds, lambda *told: value_at(*told, "a")):
            ask(system, OFTEN)
            self.assertEqual((system.states(), system.marks(), system.arrows()),
                             (SMALL.states(), SMALL.marks(), SMALL.arrows()))


if __name__ == "__main__":
    unittest.main()
