"""Points 22 and 23: the workshop."""

import unittest

from latticewish.errors import (
    BadName, BadText, InUse, LatticeError, TwiceTold, UnboundName, UnknownFormula, UnknownState, UnknownValue)
from latticewish.evaluation import value_at, values
from latticewish.families import ChainLattice, SetLattice
from latticewish.reader import read_formula
from latticewish.systems import System
from latticewish.truths import Value
from latticewish.workshop import Workshop
from latticewish.writer import write_formula
from tests.meanings import meaning, names_of
from tests.system_samples import any_formula, any_name, dice, every_class
from tests.test_systems import BAD_NAMES

SETS = SetLattice(2)
REACH_TEXT = " (least  x ( or goal (some x)) ) "


def filled():
    shop = Workshop(SETS)
    for name in ("b", "a", "c"):
        shop.state(name)
    shop.mark("m", "b", "11")
    shop.mark("n", "a", "01")
    shop.mark("m", "c", "10")
    shop.arrow("a", "b", "01", "10")
    shop.arrow("b", "c", "11", "00")
    shop.arrow("c", "c", "10", "01")
    shop.arrow("c", "a", "11", "11")
    shop["goal"] = "(mark m)"
    shop["reach"] = REACH_TEXT
    shop["often"] = "(most y (and reach (all (or y goal))))"
    shop.wish("reach", "01")
    shop.wish("goal", "10")
    return shop


def told(shop):
    """All that can be asked of a workshop."""
    system = shop.system()
    formulas = [(name, shop[name], shop.formula(name), name in shop) for name in shop.names()]
    worth = [(name, state, str(shop.value(name, state))) for name in shop.names() for state in system.states()]
    broken = [(state, shop.broken(state)) for state in system.states()]
    return (shop.lattice.label, system.states(), system.marks(), system.arrows(), shop.names(), len(shop), formulas,
            worth, broken)


class Shops(unittest.TestCase):
    def check_error(self, shop, error, name, ask, *given):
        """The error, told with the name, and a workshop that is as it was before."""
        before = told(shop)
        with self.assertRaises(error) as caught:
            ask(*given)
        self.assertIs(type(caught.exception), error)
        if error is BadText:
            self.assertEqual(caught.exception.at, name)
        else:
            self.assertEqual(caught.exception.name, name)
        self.assertEqual(told(shop), before)

    def check_put_error(self, shop, error, name, key, text):
        def put():
            shop[key] = text
        self.check_error(shop, error, name, put)


class TestStates(Shops):
    def test_as_told(self):
        shop = filled()
        self.assertIs(shop.lattice, SETS)
        system = shop.system()
        self.assertIs(type(system), System)
        self.assertIs(system.lattice, SETS)
        self.assertEqual(system.states(), ["b", "a", "c"])
        self.assertEqual(system.marks(), [("m", "b", "11"), ("n", "a", "01"), ("m", "c", "10")])
        self.assertEqual(system.arrows(), [("a", "b", "01", "10"), ("b", "c", "11", "00"), ("c", "c", "10", "01"),
                                           ("c", "a", "11", "11")])

    def test_empty(self):
        shop = Workshop(ChainLattice(2))
        self.assertEqual((shop.names(), len(shop), shop.system().states()), ([], 0, []))
        self.assertEqual((shop.system().marks(), shop.system().arrows()), ([], []))

    def test_answers_of_calls_that_tell(self):
        shop = filled()
        self.assertIsNone(shop.state("d"))
        self.assertIsNone(shop.mark("m", "d", "01"))
        self.assertIsNone(shop.arrow("d", "d", "01", "01"))
        self.assertIsNone(shop.remove("d"))
        self.assertIsNone(shop.drop("often"))
        self.assertIsNone(shop.wish("goal", None))

    def test_told_anew_in_its_place(self):
        shop = filled()
        shop.mark("m", "b", "00")
        shop.mark("m", "a", "11")
        shop.mark("n", "a", "10")
        self.assertEqual(shop.system().marks(), [
            ("m", "b", "00"), ("n", "a", "10"), ("m", "c", "10"), ("m", "a", "11")])
        shop.arrow("b", "c", "00", "10")
        shop.arrow("b", "b", "01", "01")
        self.assertEqual(shop.system().arrows(), [
            ("a", "b", "01", "10"), ("b", "c", "00", "10"), ("c", "c", "10", "01"), ("c", "a", "11", "11"),
            ("b", "b", "01", "01")])

    def test_remove(self):
        shop = filled()
        shop.remove("c")
        system = shop.system()
        self.assertEqual(system.states(), ["b", "a"])
        self.assertEqual(system.marks(), [("m", "b", "11"), ("n", "a", "01")])
        self.assertEqual(system.arrows(), [("a", "b", "01", "10")])
        shop.state("c")
        self.assertEqual(shop.system().states(), ["b", "a", "c"])
        self.assertEqual(shop.system().marks(), [("m", "b", "11"), ("n", "a", "01")])
        self.assertEqual(shop.system().arrows(), [("a", "b", "01", "10")])
        for state in ("a", "b", "c"):
            shop.remove(state)
        self.assertEqual((shop.system().states(), shop.system().marks(), shop.system().arrows()), ([], [], []))
        self.assertEqual(shop.names(), ["goal", "reach", "often"])

    def test_state_errors(self):
        shop = filled()
        for name in BAD_NAMES:
            self.check_error(shop, BadName, name, shop.state, name)
        self.check_error(shop, TwiceTold, "a", shop.state, "a")
        for name in ("d", "", "goal", "m"):
            self.check_error(shop, UnknownState, name, shop.remove, name)

    def test_mark_errors(self):
        shop = filled()
        for name in BAD_NAMES:
            self.check_error(shop, BadName, name, shop.mark, name, "d", "2")
        self.check_error(shop, UnknownState, "d", shop.mark, "m", "d", "2")
        self.check_error(shop, UnknownState, "m", shop.mark, "m", "m", "01")
        self.check_error(shop, UnknownValue, "2", shop.mark, "m", "a", "2")
        self.check_error(shop, UnknownValue, "", shop.mark, "m", "b", "")

    def test_arrow_errors(self):
        shop = filled()
        self.check_error(shop, UnknownState, "d", shop.arrow, "d", "e", "2", "3")
        self.check_error(shop, UnknownState, "e", shop.arrow, "a", "e", "2", "3")
        self.check_error(shop, UnknownValue, "2", shop.arrow, "a", "b", "2", "3")
        self.check_error(shop, UnknownValue, "3", shop.arrow, "a", "b", "01", "3")

    def test_names_of_states_formulas_and_marks_are_apart(self):
        shop = filled()
        shop.state("goal")
        shop["a"] = "(and goal (mark a))"
        shop.mark("goal", "goal", "01")
        self.assertEqual(shop.system().states(), ["b", "a", "c", "goal"])
        self.assertEqual(shop.names(), ["goal", "reach", "often", "a"])
        shop.remove("goal")
        self.assertIn("goal", shop)
        shop.drop("a")
        self.assertIn("a", shop.system().states())

    def test_a_system_told_earlier_stays(self):
        shop = filled()
        system = shop.system()
        before = system.states(), system.marks(), system.arrows()
        shop.mark("m", "b", "00")
        shop.arrow("a", "b", "11", "11")
        shop.state("d")
        shop.remove("c")
        self.assertEqual((system.states(), system.marks(), system.arrows()), before)
        system.states().clear()
        self.assertEqual(shop.system().states(), ["b", "a", "d"])


class TestFormulas(Shops):
    def test_texts_and_names(self):
        shop = filled()
        self.assertEqual(shop["reach"], REACH_TEXT)
        self.assertEqual(shop["goal"], "(mark m)")
        self.assertEqual(shop.names(), ["goal", "reach", "often"])
        self.assertEqual(len(shop), 3)
        self.assertIs("reach" in shop, True)
        for name in ("x", "y", "m", "a", "", "true", "Reach"):
            self.assertIs(name in shop, False)
            self.assertIs(name not in shop, True)

    def test_closed_formulas(self):
        shop = filled()
        reach = ("least", "x", ("or", ("mark", "m"), ("some", ("name", "x"))))
        self.assertEqual(shop.formula("goal"), ("mark", "m"))
        self.assertEqual(shop.formula("reach"), reach)
        self.assertEqual(shop.formula("often"), (
            "most", "y", ("and", reach, ("all", ("or", ("name", "y"), ("mark", "m"))))))

    def test_as_they_are_now(self):
        shop = filled()
        shop["goal"] = "(and (mark n) true)"
        self.assertEqual(shop.names(), ["goal", "reach", "often"])
        goal = ("and", ("mark", "n"), ("true",))
        self.assertEqual(shop.formula("reach"), ("least", "x", ("or", goal, ("some", ("name", "x")))))
        self.assertEqual(shop.formula("often")[2][1], shop.formula("reach"))
        self.assertEqual(shop["reach"], REACH_TEXT)

    def test_names_bound_inside(self):
        shop = Workshop(SETS)
        shop["x"] = "(mark m)"
        shop["y"] = "(least x (or x (most y (and x y))))"
        self.assertEqual(shop.formula("y"), read_formula(shop["y"]))
        shop["z"] = "(and x (least x (or x (some y))))"
        self.assertEqual(shop.formula("z"), (
            "and", ("mark", "m"), ("least", "x", ("or", ("name", "x"), ("some", read_formula(shop["y"]))))))
        shop["w"] = "(least z (or z (and x (some (most x (and x z))))))"
        self.assertEqual(write_formula(shop.formula("w")), "(least z (or z (and (mark m) (some (most x (and x z))))))")
        shop.drop("w")
        self.check_error(shop, InUse, "y", shop.drop, "y")
        shop.drop("z")
        shop.drop("x")
        self.assertEqual(shop.names(), ["y"])

    def test_told_anew_mentions_earlier_ones_alone(self):
        shop = filled()
        shop["reach"] = "(some goal)"
        self.assertEqual(shop.names(), ["goal", "reach", "often"])
        for key, text, name in (("goal", "goal", "goal"), ("goal", "(some reach)", "reach"), ("goal", "often", "often"),
                                ("reach", "(or goal often)", "often"), ("reach", "(and reach goal)", "reach"),
                                ("new", "new", "new"), ("new", "(or often newer)", "newer"),
                                ("often", "often", "often")):
            self.check_put_error(shop, UnboundName, name, key, text)
        shop["often"] = "(and reach goal)"
        shop["goal"] = "(least goal (or (mark m) (some goal)))"
        self.assertEqual(shop.formula("often"), ("and", ("some", shop.formula("goal")), shop.formula("goal")))

    def test_errors_in_their_order(self):
        shop = filled()
        for name in BAD_NAMES:
            self.check_put_error(shop, BadName, name, name, ")")
        for key in ("new", "goal"):
            self.check_put_error(shop, BadText, 0, key, ")")
            self.check_put_error(shop, BadText, 0, key, "")
            self.check_put_error(shop, BadText, 18, key, "(and (value 9) z) )")
            self.check_put_error(shop, UnknownValue, "9", key, "(and (value 9) z)")
            self.check_put_error(shop, UnboundName, "z", key, "(and z (value 9))")
            self.check_put_error(shop, UnboundName, "z", key, "(or (least z (some z)) (and z (value 9)))")
            self.check_put_error(shop, UnknownValue, "8", key, "(least x (or (value 8) (or x y)))")
        for name in ("x", "a", "m", "", "true"):
            self.check_error(shop, UnknownFormula, name, lambda: shop[name])
            self.check_error(shop, UnknownFormula, name, shop.formula, name)
            self.check_error(shop, UnknownFormula, name, shop.drop, name)
            self.check_error(shop, UnknownFormula, name, shop.value, name, "nowhere")
            self.check_error(shop, UnknownFormula, name, shop.wish, name, "9")
            self.check_error(shop, UnknownFormula, name, shop.wish, name, None)

    def test_drop(self):
        shop = filled()
        self.check_error(shop, InUse, "goal", shop.drop, "goal")
        self.check_error(shop, InUse, "reach", shop.drop, "reach")
        shop.drop("often")
        self.assertEqual((shop.names(), len(shop), "often" in shop), (["goal", "reach"], 2, False))
        self.check_error(shop, UnknownFormula, "often", shop.drop, "often")
        self.check_error(shop, InUse, "goal", shop.drop, "goal")
        shop["reach"] = "(least goal (some goal))"
        shop.drop("goal")
        shop["goal"] = "reach"
        self.assertEqual(shop.names(), ["reach", "goal"])
        self.check_error(shop, InUse, "reach", shop.drop, "reach")

    def test_long_rows(self):
        """Each formula mentions the one before it twice: nothing is worked out more than once."""
        shop = Workshop(SETS)
        shop["f0"] = "(mark m)"
        for number in range(1, 75):
            shop[f"f{number}"] = f"(and f{number - 1} f{number - 1})"
        self.assertEqual(len(shop), 75)
        self.assertEqual(shop.formula("f74")[0], "and")
        self.assertEqual(write_formula(shop.formula("f2")), "(and (and (mark m) (mark m)) (and (mark m) (mark m)))")
        for number in range(74):
            with self.assertRaises(InUse):
                shop.drop(f"f{number}")

    def test_not_gone_through(self):
        with self.assertRaises(TypeError):
            list(filled())
        with self.assertRaises(TypeError):
            for _ in filled():
                pass

    def test_list_is_the_callers(self):
        shop = filled()
        shop.names().clear()
        shop.names().append("z")
        self.assertEqual(shop.names(), ["goal", "reach", "often"])


class TestValues(Shops):
    def test_values(self):
        shop = filled()
        for name in shop.names():
            wanted = values(shop.system(), shop.formula(name))
            for state, value in wanted.items():
                self.assertEqual(shop.value(name, state), Value.named(SETS, value))
                self.assertIs(type(shop.value(name, state)), Value)
        self.check_error(shop, UnknownState, "z", shop.value, "goal", "z")
        self.check_error(shop, UnknownFormula, "z", shop.value, "z", "z")

    def test_wishes(self):
        shop = filled()
        self.check_broken(shop, {"reach": "01", "goal": "10"})
        shop.wish("often", "11")
        shop.wish("goal", "11")
        self.check_broken(shop, {"reach": "01", "goal": "11", "often": "11"})
        self.assertEqual(shop.broken("a"), ["goal", "often"])
        shop.wish("goal", None)
        self.assertEqual(shop.broken("a"), ["often"])
        shop.wish("goal", None)
        shop.wish("reach", "00")
        self.assertEqual(shop.broken("a"), ["often"])
        shop.wish("often", "00")
        self.assertEqual([shop.broken(state) for state in "abc"], [[], [], []])

    def check_broken(self, shop, wishes):
        for state in "abc":
            wanted = []
            for name in shop.names():
                value = value_at(shop.system(), shop.formula(name), state)
                if name in wishes and not Value.named(SETS, wishes[name]) <= value:
                    wanted.append(name)
            self.assertEqual(shop.broken(state), wanted)

    def test_wish_errors(self):
        shop = filled()
        self.check_error(shop, UnknownValue, "9", shop.wish, "goal", "9")
        self.check_error(shop, UnknownFormula, "z", shop.wish, "z", "9")
        for state in ("z", "", "goal"):
            self.check_error(shop, UnknownState, state, shop.broken, state)
        self.check_error(Workshop(SETS), UnknownState, "a", Workshop(SETS).broken, "a")

    def test_wish_stays_with_its_formula(self):
        shop = filled()
        self.assertEqual(shop.broken("a"), ["goal"])
        shop["goal"] = "true"
        self.assertEqual(shop.broken("a"), [])
        shop["goal"] = "(value 01)"
        self.assertEqual(shop.broken("a"), ["goal"])
        shop.drop("often")
        shop["reach"] = "false"
        self.assertEqual(shop.broken("a"), ["goal", "reach"])
        shop.drop("goal")
        self.assertEqual(shop.broken("a"), ["reach"])
        shop["goal"] = "false"
        self.assertEqual(shop.broken("a"), ["reach"])

    def test_broken_in_the_order_of_the_row(self):
        shop = Workshop(SETS)
        shop.state("s")
        for name in ("c", "a", "b"):
            shop[name] = "false"
        for name in ("a", "b", "c"):
            shop.wish(name, "01")
        self.assertEqual(shop.broken("s"), ["c", "a", "b"])
        shop.drop("c")
        shop["c"] = "false"
        shop.wish("c", "10")
        self.assertEqual(shop.broken("s"), ["a", "b", "c"])
        shop.broken("s").clear()
        self.assertEqual(shop.broken("s"), ["a", "b", "c"])

    def test_every_class_of_lattice(self):
        throws = dice(71)
        for lattice in every_class():
            shop = Workshop(lattice)
            for state in ("s1", "s0"):
                shop.state(state)
            shop.mark("m", "s0", any_name(throws, lattice))
            shop.arrow("s1", "s0", any_name(throws, lattice), any_name(throws, lattice))
            shop["f"] = write_formula(any_formula(throws, lattice, 5))
            shop["g"] = "(some (or f (mark m)))"
            wanted = names_of(shop.system(), meaning(shop.system(), shop.formula("g")))
            for state in ("s1", "s0"):
                self.assertEqual(str(shop.value("g", state)), wanted[state])
                for place in range(lattice.size):
                    shop.wish("g", lattice.name_at(place))
                    met = lattice.within_at(place, lattice.at_name(wanted[state]))
                    self.assertEqual(shop.broken(state), [] if met else ["g"])


class Stop(BaseException):
    """An error that is no Exception."""


class TestAttempts(Shops):
    def change_all(self, shop):
        shop.state("d")
        shop.mark("m", "d", "01")
        shop.mark("m", "b", "00")
        shop.arrow("d", "a", "01", "01")
        shop.arrow("a", "b", "00", "00")
        shop.remove("c")
        shop["goal"] = "(value 10)"
        shop["extra"] = "(some often)"
        shop.wish("extra", "01")
        shop.wish("goal", None)
        shop.wish("reach", "11")
        shop.drop("extra")
        shop.drop("often")

    def test_called_with_the_shop(self):
        shop, seen = filled(), []

        def action(given):
            seen.append(given)
            return seen

        self.assertIs(shop.attempt(action), seen)
        self.assertEqual(len(seen), 1)
        self.assertIs(seen[0], shop)
        self.assertIsNone(shop.attempt(lambda given: None))
        self.assertIs(shop.attempt(lambda given: False), False)

    def test_what_is_done_stays(self):
        shop, other = filled(), filled()
        shop.attempt(self.change_all)
        self.change_all(other)
        self.assertEqual(told(shop), told(other))
        self.assertNotEqual(told(shop), told(filled()))

    def test_each_error_goes_on(self):
        for error in (ValueError("x"), KeyError("y"), UnknownState("z"), Stop(), KeyboardInterrupt(), StopIteration(1),
                      SystemExit(3), BadText(4), ZeroDivisionError(), RecursionError()):
            shop = filled()

            def action(given):
                self.change_all(given)
                raise error

            with self.assertRaises(type(error)) as caught:
                shop.attempt(action)
            self.assertIs(caught.exception, error)
            self.assertEqual(told(shop), told(filled()))

    def test_errors_of_the_shop_itself(self):
        shop = filled()

        def action(given):
            self.change_all(given)
            given.state("a")

        self.check_error(shop, TwiceTold, "a", shop.attempt, action)

    def test_errors_that_are_caught_inside(self):
        shop = filled()

        def action(given):
            try:
                given.state("a")
            except LatticeError:
                given.state("e")
            return 5

        self.assertEqual(shop.attempt(action), 5)
        self.assertEqual(shop.system().states(), ["b", "a", "c", "e"])

    def test_inner_one_that_fails_and_is_caught(self):
        shop = filled()

        def inner(given):
            given.state("i")
            given["often"] = "false"
            given.remove("a")
            raise Stop()

        def outer(given):
            given.state("o")
            before = told(given)
            with self.assertRaises(Stop):
                given.attempt(inner)
            self.assertEqual(told(given), before)
            given.mark("k", "o", "11")
            return "done"

        self.assertEqual(shop.attempt(outer), "done")
        self.assertEqual(shop.system().states(), ["b", "a", "c", "o"])
        self.assertEqual(shop.system().marks()[-1], ("k", "o", "11"))
        self.assertEqual(shop["often"], filled()["often"])

    def test_inner_one_that_succeeds_within_one_that_fails(self):
        shop = filled()

        def outer(given):
            self.assertEqual(given.attempt(lambda inside: (self.change_all(inside), 7)[1]), 7)
            self.assertIn("d", given.system().states())
            given.state("o")
            raise Stop()

        with self.assertRaises(Stop):
            shop.attempt(outer)
        self.assertEqual(told(shop), told(filled()))

    def test_three_in_one_another(self):
        shop = filled()

        def innermost(given):
            given.state("k")
            raise UnknownState("k")

        def middle(given):
            given.state("j")
            given.attempt(innermost)

        def outermost(given):
            given.state("i")
            with self.assertRaises(UnknownState):
                given.attempt(middle)
            given.attempt(lambda inside: inside.state("l"))

        shop.attempt(outermost)
        self.assertEqual(shop.system().states(), ["b", "a", "c", "i", "l"])

    def test_goes_on_as_before_afterwards(self):
        shop, other = filled(), filled()
        for _ in range(3):
            with self.assertRaises(Stop):
                shop.attempt(self.fail_after_change)
        self.change_all(shop)
        self.change_all(other)
        self.assertEqual(told(shop), told(other))

    def fail_after_change(self, shop):
        self.change_all(shop)
        raise Stop()

    def test_no_action(self):
        shop = filled()
        with self.assertRaises(TypeError):
            shop.attempt(None)
        self.assertEqual(told(shop), told(filled()))

    def test_two_shops(self):
        one, other = filled(), filled()

        def action(given):
            given.state("o")
            other.state("p")
            raise Stop()

        with self.assertRaises(Stop):
            one.attempt(action)
        self.assertEqual(told(one), told(filled()))
        self.assertEqual(other.system().states(), ["b", "a", "c", "p"])


if __name__ == "__main__":
    unittest.main()
