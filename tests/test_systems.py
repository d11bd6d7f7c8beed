"""Point 12: systems."""

import unittest

from latticewish.combined import TurnedLattice
from latticewish.errors import BadName, TwiceTold, UnknownState, UnknownValue
from latticewish.families import ChainLattice, SetLattice
from latticewish.labels import read_lattice
from latticewish.systems import System
from latticewish.truths import Value
from tests.samples import regular_samples
from tests.system_samples import any_system, dice

SETS = SetLattice(2)
STATES = ["b", "a", "c"]
MARKS = [("m", "a", "01"), ("n", "b", "11"), ("m", "b", "00"), ("a", "c", "10")]
ARROWS = [("b", "a", "01", "10"), ("a", "a", "11", "00"), ("b", "b", "00", "11"), ("b", "c", "10", "10")]
GOOD_NAMES = ("a", "z9", "abcdefghijkl", "x00000000000", "name", "lessthan", "trues", "somes")
BAD_NAMES = ("", "abcdefghijklm", "9a", "0", "A", "aB", "a_b", "a b", " a", "a\n", "a-", "(", "true", "false", "value",
             "mark", "and", "or", "some", "all", "least", "most", "\u00e4", "a\u0661")


def told():
    return System(SETS, STATES, MARKS, ARROWS)


class Errors(unittest.TestCase):
    def check_error(self, error, name, states, marks=(), arrows=(), lattice=SETS):
        with self.assertRaises(error) as caught:
            System(lattice, list(states), list(marks), list(arrows))
        self.assertIs(type(caught.exception), error)
        self.assertEqual(caught.exception.name, name)


class TestTold(unittest.TestCase):
    def test_as_given(self):
        system = told()
        self.assertIs(system.lattice, SETS)
        self.assertEqual(system.states(), STATES)
        self.assertEqual(system.marks(), MARKS)
        self.assertEqual(system.arrows(), ARROWS)
        for answer in (system.states(), system.marks(), system.arrows()):
            self.assertIsInstance(answer, list)

    def test_marks(self):
        system = told()
        for mark, state, name in MARKS:
            self.assertEqual(system.mark_at(mark, state), Value.named(SETS, name))
            self.assertIs(type(system.mark_at(mark, state)), Value)
        for mark, state in (("m", "c"), ("n", "a"), ("a", "a"), ("nobody", "b")):
            self.assertEqual(system.mark_at(mark, state), Value.bottom(SETS))

    def test_bottom_of_a_turned_lattice(self):
        system = System(TurnedLattice(ChainLattice(3)), ["s"], [], [])
        self.assertEqual(str(system.mark_at("m", "s")), "2")

    def test_arrows(self):
        system = told()
        for state in STATES:
            wanted = [(end, Value.named(SETS, has), Value.named(SETS, lacks))
                      for start, end, has, lacks in ARROWS if start == state]
            answer = system.arrows_from(state)
            self.assertIsInstance(answer, list)
            self.assertEqual(answer, wanted)
            for row in answer:
                self.assertIsInstance(row, tuple)
                self.assertIs(type(row[1]), Value)
                self.assertIs(row[1].lattice, SETS)
        self.assertEqual([row[0] for row in system.arrows_from("b")], ["a", "b", "c"])
        self.assertEqual([row[0] for row in system.arrows_from("a")], ["a"])
        self.assertEqual(system.arrows_from("c"), [])

    def test_unknown_state(self):
        for state in ("d", "m", "", "A", "true"):
            for ask in (lambda: told().mark_at("m", state), lambda: told().arrows_from(state)):
                with self.assertRaises(UnknownState) as caught:
                    ask()
                self.assertEqual(caught.exception.name, state)

    def test_unknown_state_of_an_unknown_mark(self):
        with self.assertRaises(UnknownState) as caught:
            told().mark_at("nobody", "nowhere")
        self.assertEqual(caught.exception.name, "nowhere")

    def test_no_states(self):
        system = System(SETS, [], [], [])
        self.assertEqual((system.states(), system.marks(), system.arrows()), ([], [], []))
        with self.assertRaises(UnknownState):
            system.mark_at("m", "s")
        with self.assertRaises(UnknownState):
            system.arrows_from("s")

    def test_every_class_of_lattice(self):
        throws = dice(1)
        for lattice in regular_samples():
            system = any_system(throws, lattice, 4)
            again = read_lattice(lattice.label)
            for mark, state, name in system.marks():
                self.assertEqual(system.mark_at(mark, state), Value.named(again, name))
                self.assertEqual(Value.named(again, name), system.mark_at(mark, state))
            for state in system.states():
                names = [(end, str(has), str(lacks)) for end, has, lacks in system.arrows_from(state)]
                self.assertEqual(names, [arrow[1:] for arrow in system.arrows() if arrow[0] == state])
                self.assertTrue(all(has.lattice is lattice for _, has, _ in system.arrows_from(state)))

    def test_names(self):
        for name in GOOD_NAMES:
            system = System(SETS, ["s", name], [(name, "s", "01"), (name, name, "10")], [(name, name, "01", "01")])
            self.assertEqual(str(system.mark_at(name, name)), "10")

    def test_one_name_for_state_and_mark(self):
        self.assertEqual(str(System(SETS, ["a"], [("a", "a", "01")], []).mark_at("a", "a")), "01")


class TestErrors(Errors):
    def test_states(self):
        for name in BAD_NAMES:
            self.check_error(BadName, name, [name])
            self.check_error(BadName, name, ["a", "b", name])
        self.check_error(TwiceTold, "b", ["a", "b", "c", "b"])
        self.check_error(TwiceTold, "a", ["a", "a"])

    def test_marks(self):
        for name in BAD_NAMES:
            self.check_error(BadName, name, ["a"], [(name, "a", "01")])
        self.check_error(UnknownState, "b", ["a"], [("m", "b", "01")])
        self.check_error(UnknownState, "m", ["a"], [("m", "m", "01")])
        self.check_error(UnknownValue, "2", ["a"], [("m", "a", "2")])
        self.check_error(UnknownValue, "", ["a"], [("m", "a", "")])
        self.check_error(TwiceTold, "m", ["a"], [("m", "a", "01"), ("m", "a", "10")])
        self.check_error(TwiceTold, "m", ["a", "b"], [("m", "a", "01"), ("m", "b", "01"), ("m", "a", "01")])

    def test_arrows(self):
        self.check_error(UnknownState, "x", ["a"], [], [("x", "a", "01", "01")])
        self.check_error(UnknownState, "y", ["a"], [], [("a", "y", "01", "01")])
        self.check_error(UnknownValue, "1", ["a"], [], [("a", "a", "1", "01")])
        self.check_error(UnknownValue, "3", ["a"], [], [("a", "a", "01", "3")])
        self.check_error(TwiceTold, "a", ["b", "a"], [], [("a", "b", "01", "01"), ("a", "b", "10", "10")])
        self.check_error(TwiceTold, "b", ["b"], [], [("b", "b", "01", "01"), ("b", "b", "01", "01")])

    def test_both_ways_is_not_twice(self):
        arrows = [("a", "b", "01", "01"), ("b", "a", "01", "01"), ("a", "a", "01", "01")]
        self.assertEqual(System(SETS, ["a", "b"], [], arrows).arrows(), arrows)

    def test_first_fault_within_a_mark(self):
        self.check_error(BadName, "M", ["a"], [("M", "b", "x")])
        self.check_error(UnknownState, "b", ["a"], [("m", "b", "x")])
        self.check_error(UnknownValue, "x", ["a"], [("m", "a", "01"), ("m", "a", "x")])
        self.check_error(BadName, "M", ["a"], [("M", "a", "x")])

    def test_first_fault_within_an_arrow(self):
        self.check_error(UnknownState, "x", ["a"], [], [("x", "y", "u", "v")])
        self.check_error(UnknownState, "y", ["a"], [], [("a", "y", "u", "v")])
        self.check_error(UnknownValue, "u", ["a"], [], [("a", "a", "u", "v")])
        self.check_error(UnknownValue, "v", ["a"], [], [("a", "a", "01", "01"), ("a", "a", "01", "v")])
        self.check_error(UnknownValue, "u", ["a"], [], [("a", "a", "01", "01"), ("a", "a", "u", "01")])

    def test_first_fault_in_the_order_of_the_lists(self):
        bad_mark, bad_arrow = [("M", "a", "01")], [("a", "z", "01", "01")]
        self.check_error(TwiceTold, "a", ["a", "a", "B"], bad_mark, bad_arrow)
        self.check_error(BadName, "B", ["B", "a", "a"], bad_mark, bad_arrow)
        self.check_error(BadName, "M", ["a"], bad_mark, bad_arrow)
        self.check_error(TwiceTold, "m", ["a"], [("m", "a", "01"), ("m", "a", "01"), ("M", "a", "01")], bad_arrow)
        self.check_error(UnknownValue, "v", ["a"], [("m", "a", "v"), ("M", "a", "01")], bad_arrow)
        self.check_error(UnknownState, "z", ["a"], [("m", "a", "01")], bad_arrow + [("q", "a", "01", "01")])
        self.check_error(UnknownValue, "5", ["a"], [], [("a", "a", "5", "01"), ("q", "a", "01", "01")])


class TestLists(unittest.TestCase):
    def test_arguments_stay_and_are_not_kept(self):
        states, marks, arrows = list(STATES), list(MARKS), list(ARROWS)
        system = System(SETS, states, marks, arrows)
        self.assertEqual((states, marks, arrows), (STATES, MARKS, ARROWS))
        for row in (states, marks, arrows):
            row.clear()
        states.append("z")
        self.check_as_told(system)

    def test_bad_arguments_stay(self):
        states, marks, arrows = ["a"], [("m", "a", "01"), ("m", "a", "10")], [("a", "b", "01", "01")]
        with self.assertRaises(TwiceTold):
            System(SETS, states, marks, arrows)
        self.assertEqual((states, marks, arrows), (
            ["a"], [("m", "a", "01"), ("m", "a", "10")], [("a", "b", "01", "01")]))

    def test_answers_are_the_callers(self):
        system = told()
        for answer in (system.states(), system.marks(), system.arrows(), system.arrows_from("b")):
            answer.clear()
        system.states().append("z")
        system.arrows_from("a")[0] = None
        system.mark_at("m", "a").place = 2
        system.arrows_from("a")[0][1].place = 0
        self.check_as_told(system)

    def check_as_told(self, system):
        self.assertEqual((system.states(), system.marks(), system.arrows()), (STATES, MARKS, ARROWS))
        self.assertEqual([str(system.mark_at(mark, state)) for mark, state, _ in MARKS], [name for _, _, name in MARKS])
        rows = [(state, end, str(has), str(lacks))
                for state in ("b", "a") for end, has, lacks in system.arrows_from(state)]
        self.assertEqual(sorted(rows), sorted(ARROWS))
        with self.assertRaises(UnknownState):
            system.arrows_from("z")


if __name__ == "__main__":
    unittest.main()
