"""Points 15 and 16: judge_paper, with papers that the tests make themselves."""

import copy
import unittest

from latticewish.errors import NotIrreducible, UnboundName, UnknownState, UnknownValue
from latticewish.families import ChainLattice, SetLattice
from latticewish.judging import judge_paper
from latticewish.labels import read_lattice
from latticewish.reader import read_formula
from latticewish.systems import System
from tests.formula_samples import OFTEN, REACH, STAY
from tests.meanings import is_right, places_of
from tests.own_papers import full_paper, own_paper, stretched, with_line
from tests.system_samples import any_formula, any_system, dice, every_class, row
from tests.test_values import NESTED, largest

TWO = ChainLattice(2)
SETS = SetLattice(2)
ROW = row(TWO, 3)
# The states s0, s1, s2 in a row, m at s2: s0 comes to m by two steps.
REACHED = [
    ("s0", (), (), None), ("s0", (0,), (3,), 1), ("s0", (0, 1), (3,), "s1"),
    ("s1", (0,), (2,), 1), ("s1", (0, 1), (2,), "s2"), ("s1", (0, 1, 0), (3,), None),
    ("s2", (0,), (1,), 0), ("s2", (0, 0), (1,), None), ("s2", (0, 1, 0), (2,), None)]
# Each kind of formula, with a state and a value of SMALL for which the answer is yes, and ones for which it is no.
SMALL = System(SETS, ["b", "a", "c"], [("m", "a", "01"), ("m", "b", "11"), ("n", "c", "10")],
               [("b", "a", "01", "10"), ("a", "a", "11", "00"), ("b", "c", "10", "01"), ("c", "b", "01", "01")])
KINDS = (
    ("true", "a", "01", None, None), ("false", None, None, "a", "01"), ("(value 10)", "a", "10", "a", "01"),
    ("(mark m)", "b", "10", "a", "10"), ("(mark k)", None, None, "b", "01"),
    ("(and (mark m) (value 10))", "b", "10", "b", "01"), ("(or (mark m) (mark n))", "c", "10", "a", "10"),
    ("(some (mark m))", "b", "01", "b", "10"), ("(all (mark m))", "c", "10", "a", "10"),
    ("(some true)", "b", "10", "c", "10"), ("(all false)", "c", "01", "b", "01"),
    ("(least x (or (mark n) (some x)))", "b", "10", "b", "01"),
    ("(most x (and (mark m) (some x)))", "b", "01", "c", "01"),
    ("(least x x)", None, None, "a", "01"), ("(most x x)", "a", "01", None, None))


class Papers(unittest.TestCase):
    def judge(self, system, formula, state, name, paper):
        """The answer, which has to be True or False, and to leave all that was handed in as it was."""
        before = copy.deepcopy((formula, paper)), system.states(), system.marks(), system.arrows()
        answer = judge_paper(system, formula, state, name, paper)
        self.assertIn(answer, (True, False))
        self.assertIs(type(answer), bool)
        self.assertEqual(((formula, paper), system.states(), system.marks(), system.arrows()), before)
        return answer

    def check_both_papers(self, system, formula, state, name):
        for make in (own_paper, full_paper):
            paper = make(system, formula, state, name)
            self.assertTrue(self.judge(system, formula, state, name, paper), (formula, paper))
            self.assertFalse(self.judge(system, formula, state, name, other_side(paper)), (formula, paper))

    def check_everywhere(self, system, formula):
        for state in system.states():
            for piece in system.lattice.irreducibles():
                self.check_both_papers(system, formula, state, system.lattice.name_at(piece))


def other_side(paper):
    return ("no" if paper[0] == "yes" else "yes"), paper[1]


class TestRightPapers(Papers):
    def test_by_hand(self):
        self.assertTrue(self.judge(ROW, REACH, "s0", "1", ("yes", ordered(REACHED))))
        self.assertTrue(self.judge(ROW, ("true",), "s1", "1", ("yes", [("s1", (), (), None)])))
        self.assertTrue(self.judge(ROW, ("false",), "s1", "1", ("no", [("s1", (), (), None)])))
        self.assertTrue(self.judge(ROW, ("mark", "m"), "s2", "1", ("yes", [("s2", (), (), None)])))
        self.assertTrue(self.judge(ROW, ("all", ("false",)), "s2", "1", ("yes", [("s2", (), (), None)])))
        self.assertTrue(self.judge(ROW, ("some", ("true",)), "s2", "1", ("no", [("s2", (), (), None)])))

    def test_each_kind_of_formula(self):
        for text, yes_state, yes_name, no_state, no_name in KINDS:
            formula = read_formula(text)
            if yes_state:
                self.assertEqual(own_paper(SMALL, formula, yes_state, yes_name)[0], "yes", text)
            if no_state:
                self.assertEqual(own_paper(SMALL, formula, no_state, no_name)[0], "no", text)
            self.check_everywhere(SMALL, formula)

    def test_every_class_of_lattice(self):
        throws = dice(21)
        for lattice in every_class():
            for formula in (REACH, STAY, OFTEN):
                self.check_everywhere(any_system(throws, lattice, 3, "ring"), formula)

    def test_binders_in_one_another(self):
        throws = dice(22)
        for text in NESTED:
            for shape in ("row", "ring"):
                for lattice in (TWO, SETS):
                    self.check_everywhere(any_system(throws, lattice, 3, shape), read_formula(text))

    def test_any_formulas(self):
        throws = dice(23)
        for number in range(300):
            lattice = throws.choice(every_class()[:-1])
            system = any_system(throws, lattice, throws.randrange(1, 5), throws.choice(("any", "row", "ring")))
            formula = any_formula(throws, lattice, throws.randrange(1, 7))
            name = lattice.name_at(throws.choice(lattice.irreducibles()))
            self.check_both_papers(system, formula, throws.choice(system.states()), name)

    def test_stretched_and_moved(self):
        throws = dice(24)
        for text in NESTED:
            system = any_system(throws, SETS, 3, "ring")
            for state in system.states():
                paper = full_paper(system, read_formula(text), state, "01")
                for by, more in ((1, 0), (1, 5), (3, 0), (7, 2), (10 ** 20, 10 ** 30)):
                    self.assertTrue(self.judge(system, read_formula(text), state, "01", stretched(paper, by, more)))

    def test_lines_that_can_not_come_may_be_left_out_one_by_one(self):
        paper, full = own_paper(ROW, REACH, "s1", "1"), full_paper(ROW, REACH, "s1", "1")
        self.assertLess(len(paper[1]), len(full[1]))
        needed = [line[:2] for line in paper[1]]
        for number, line in enumerate(full[1]):
            left = "yes", full[1][:number] + full[1][number + 1:]
            known = [other[:2] for other in left[1]]
            self.assertEqual(self.judge(ROW, REACH, "s1", "1", left), is_right(ROW, REACH, "s1", "1", left))
            if line[:2] in needed:
                self.assertFalse(self.judge(ROW, REACH, "s1", "1", left))
            self.assertNotIn(line[:2], known)

    def test_a_line_that_can_not_come_has_to_be_right(self):
        paper = own_paper(ROW, REACH, "s1", "1")
        wrong = ordered(paper[1] + [("s0", (0, 0), (0,), None)])
        self.assertFalse(self.judge(ROW, REACH, "s1", "1", ("yes", wrong)))

    def test_lattice_read_anew(self):
        throws = dice(25)
        for lattice in every_class()[:-1]:
            system = any_system(throws, lattice, 3)
            again = System(read_lattice(lattice.label), system.states(), system.marks(), system.arrows())
            name = lattice.name_at(lattice.irreducibles()[0])
            self.assertTrue(self.judge(again, OFTEN, "s0", name, own_paper(system, OFTEN, "s0", name)))


class TestWrongPapers(Papers):
    def check_wrong(self, paper, formula=REACH, system=ROW, state="s0", name="1"):
        self.assertFalse(self.judge(system, formula, state, name, paper), paper)
        self.assertFalse(is_right(system, formula, state, name, paper), paper)

    def test_side(self):
        lines = ordered(REACHED)
        for side in ("no", "", "YES", "maybe", "yes ", "y"):
            self.check_wrong((side, lines))

    def test_line_left_out_or_twice(self):
        lines = ordered(REACHED)
        for number, line in enumerate(lines):
            self.check_wrong(("yes", lines[:number] + lines[number + 1:]))
            self.check_wrong(("yes", lines[:number] + [line] + lines[number:]))
        self.check_wrong(("yes", []))
        self.check_wrong(("no", []))

    def test_same_position_twice_with_other_ranks(self):
        lines = ordered(REACHED)
        for number, (state, place, ranks, choice) in enumerate(lines):
            other = (state, place, tuple(rank + 1 for rank in ranks), choice)
            self.check_wrong(("yes", lines[:number] + [other] + lines[number:]))
            self.check_wrong(("yes", lines[:number + 1] + [other] + lines[number + 1:]))

    def test_out_of_order(self):
        lines = ordered(REACHED)
        for number in range(len(lines) - 1):
            swapped = lines[:number] + [lines[number + 1], lines[number]] + lines[number + 2:]
            self.check_wrong(("yes", swapped))
        self.check_wrong(("yes", lines[::-1]))
        # In the order of the names, which is not the order of the states.
        turned = System(TWO, ["s2", "s1", "s0"], ROW.marks(), ROW.arrows())
        self.check_wrong(("yes", lines), system=turned)
        self.assertTrue(self.judge(turned, REACH, "s0", "1", ("yes", ordered(REACHED, ["s2", "s1", "s0"]))))

    def test_state_or_place_that_is_not_there(self):
        lines = ordered(REACHED)
        for state in ("s3", "m", "", "S0"):
            self.check_wrong(("yes", lines + [(state, (), (), None)]))
            self.check_wrong(("yes", [(state, (), (), None)] + lines))
        for place in ((1,), (0, 2), (0, 0, 0), (0, 1, 0, 0), (-1,), (0, -1), (2,)):
            line = ("s2", place, (0,), None)
            self.check_wrong(("yes", ordered(REACHED + [line])))
            self.check_wrong(("yes", lines + [line]))

    def test_ranks(self):
        lines = ordered(REACHED)
        for number, (state, place, ranks, choice) in enumerate(lines):
            for other in ([ranks + (0,), ranks + (5,)] + ([ranks[:-1]] if ranks else [])):
                self.check_wrong(with_line(("yes", lines), number, (state, place, other, choice)))

    def test_a_rank_more_or_less_by_one(self):
        lines = ordered(REACHED)
        # Each rank is bound from both sides, but for the first ones, which may be more, and the last one, which may be
        # less.
        for number, (state, place, ranks, choice) in enumerate(lines):
            for more in (1, -1):
                if ranks:
                    paper = with_line(("yes", lines), number, (state, place, (ranks[0] + more,), choice))
                    free = (state, place, more) in ((("s0", (0,), 1)), ("s2", (0, 0), -1))
                    self.assertEqual(self.judge(ROW, REACH, "s0", "1", paper), free, paper)
                    self.assertEqual(is_right(ROW, REACH, "s0", "1", paper), free, paper)

    def test_ranks_below_zero(self):
        paper = stretched(("yes", ordered(REACHED)), 1, -1)
        self.assertTrue(self.judge(ROW, REACH, "s0", "1", paper))
        self.check_wrong(stretched(paper, 1, -1))

    def test_choice(self):
        lines = ordered(REACHED)
        for number, (state, place, ranks, choice) in enumerate(lines):
            for other in (None, 0, 1, 2, -1, "s0", "s1", "s2", "s3", "0", "1", ""):
                if other != choice or (other is None) != (choice is None):
                    self.check_wrong(with_line(("yes", lines), number, (state, place, ranks, other)))

    def test_end_of_another_arrow_that_does_not_count(self):
        system = System(SETS, ["a", "b", "c"], [("m", "b", "11"), ("m", "c", "11")],
                        [("a", "b", "01", "00"), ("a", "c", "10", "11")])
        formula = ("some", ("mark", "m"))
        lines = [("a", (), (), "b"), ("b", (0,), (), None), ("c", (0,), (), None)]
        self.assertTrue(self.judge(system, formula, "a", "01", ("yes", lines)))
        self.check_wrong(("yes", lines), formula, system, "a", "10")
        self.assertTrue(self.judge(system, formula, "a", "10", ("yes", [("a", (), (), "c")] + lines[1:])))

    def test_no_next_position(self):
        self.check_wrong(("yes", [("s2", (), (), None)]), ("some", ("true",)), state="s2")
        self.check_wrong(("yes", [("s2", (), (), "s2")]), ("some", ("true",)), state="s2")
        self.check_wrong(("no", [("s2", (), (), None)]), ("all", ("false",)), state="s2")

    def test_all_next_positions_need_lines(self):
        both = System(TWO, ["a", "b", "c"], [], [("a", "b", "1", "0"), ("a", "c", "1", "0")])
        lines = [("a", (), (), None), ("b", (0,), (), None), ("c", (0,), (), None)]
        for formula, side in ((("all", ("true",)), "yes"), (("some", ("false",)), "no")):
            self.assertTrue(self.judge(both, formula, "a", "1", (side, lines)))
            for number in (1, 2):
                self.check_wrong((side, lines[:number] + lines[number + 1:]), formula, both, "a")
            self.check_wrong((side, [("a", (), (), "b")] + lines[1:]), formula, both, "a")
        for formula, side in ((("and", ("true",), ("true",)), "yes"), (("or", ("false",), ("false",)), "no")):
            lines = [("a", (), (), None), ("a", (0,), (), None), ("a", (1,), (), None)]
            self.assertTrue(self.judge(both, formula, "a", "1", (side, lines)))
            for number in (1, 2):
                self.check_wrong((side, lines[:number] + lines[number + 1:]), formula, both, "a")
            self.check_wrong((side, [("a", (), (), 0)] + lines[1:]), formula, both, "a")

    def test_going_round_for_ever(self):
        loop = System(TWO, ["a"], [], [("a", "a", "1", "0")])
        for word, step, side in (("least", "some", "yes"), ("most", "some", "no"), ("least", "all", "yes"),
                                 ("most", "all", "no")):
            formula = (word, "x", (step, ("name", "x")))
            wrong_by = {("yes", "some"): "a", ("no", "all"): "a"}.get((side, step))
            for before, behind in ((0, 0), (1, 0), (5, 5), (2, 3)):
                lines = [("a", (), (), None), ("a", (0,), (before,), wrong_by), ("a", (0, 0), (behind,), None)]
                self.check_wrong((side, lines), formula, loop, "a")
            other = "no" if side == "yes" else "yes"
            chosen = {("yes", "some"): "a", ("no", "all"): "a"}.get((other, step))
            lines = [("a", (), (), None), ("a", (0,), (0,), chosen), ("a", (0, 0), (0,), None)]
            self.assertTrue(self.judge(loop, formula, "a", "1", (other, lines)))
            grown = with_line((other, lines), 2, ("a", (0, 0), (1,), None))
            self.check_wrong(grown, formula, loop, "a")

    def test_ranks_compared_from_the_outermost_on(self):
        loop = System(TWO, ["a"], [], [("a", "a", "1", "0")])
        formula = ("least", "x", ("least", "y", ("or", ("some", ("name", "y")), ("name", "x"))))
        for side in ("yes", "no"):
            paper = full_paper(loop, formula, "a", "1")
            self.assertEqual(paper[0], "no")
            self.assertTrue(self.judge(loop, formula, "a", "1", paper))
            self.assertEqual(self.judge(loop, formula, "a", "1", (side, paper[1])), side == "no")

    def test_outer_rank_may_fall_while_the_inner_one_grows(self):
        states = System(TWO, ["a", "b"], [("m", "b", "1")], [("a", "b", "1", "0")])
        formula = ("least", "x", ("least", "y", ("or", ("mark", "m"), ("some", ("name", "x")))))
        lines = [
            ("a", (), (), None), ("a", (0,), (1,), None), ("a", (0, 0), (1, 0), 1), ("a", (0, 0, 1), (1, 0), "b"),
            ("b", (0,), (0,), None), ("b", (0, 0), (0, 9), 0), ("b", (0, 0, 0), (0, 9), None),
            ("b", (0, 0, 1, 0), (1, 0), None)]
        self.assertTrue(self.judge(states, formula, "a", "1", ("yes", lines)))
        self.check_wrong(("yes", lines[:4] + [("b", (0,), (1,), None)] + lines[5:]), formula, states, "a")
        self.check_wrong(("yes", lines[:6] + [("b", (0, 0, 0), (0, 10), None)] + lines[7:]), formula, states, "a")

    def test_inner_rank_does_not_count_at_an_outer_name(self):
        loop = System(TWO, ["a"], [("m", "a", "1")], [("a", "a", "1", "0")])
        formula = ("most", "x", ("least", "y", ("or", ("and", ("mark", "m"), ("some", ("name", "x"))), ("name", "y"))))
        self.assertTrue(self.judge(loop, formula, "a", "1", full_paper(loop, formula, "a", "1")))
        paper = own_paper(loop, formula, "a", "1")
        self.assertTrue(self.judge(loop, formula, "a", "1", stretched(paper, 4, 1)))

    def test_changed_papers(self):
        throws = dice(26)
        for number in range(250):
            lattice = throws.choice(every_class()[:-1])
            system = any_system(throws, lattice, throws.randrange(1, 4), throws.choice(("any", "row", "ring")))
            formula = any_formula(throws, lattice, throws.randrange(2, 7))
            state = throws.choice(system.states())
            name = lattice.name_at(throws.choice(lattice.irreducibles()))
            for make in (own_paper, full_paper):
                paper = make(system, formula, state, name)
                for other in changed(throws, system, formula, paper):
                    wanted = is_right(system, formula, state, name, other)
                    self.assertEqual(self.judge(system, formula, state, name, other), wanted, (formula, other))


def changed(throws, system, formula, paper):
    """The paper with one change of each kind."""
    side, lines = paper
    number = throws.randrange(len(lines))
    state, place, ranks, choice = lines[number]
    yield side, lines[:number] + lines[number + 1:]
    yield side, lines[:number] + lines[number:number + 1] * 2 + lines[number + 1:]
    yield side, throws.sample(lines, len(lines))
    for other in (None, 0, 1, throws.choice(system.states())):
        yield with_line(paper, number, (state, place, ranks, other))
    for other in (throws.choice(system.states()), "zz"):
        yield with_line(paper, number, (other, place, ranks, choice))
    for other in (throws.choice(places_of(formula)), place + (0,)):
        yield with_line(paper, number, (state, other, ranks, choice))
    for other in (ranks[:-1], ranks + (0,)):
        yield with_line(paper, number, (state, place, other, choice))
    for at in range(len(ranks)):
        for more in (1, -1):
            yield with_line(paper, number, (state, place, ranks[:at] + (ranks[at] + more,) + ranks[at + 1:], choice))


def ordered(lines, states=("s0", "s1", "s2", "s3")):
    return sorted(lines, key=lambda line: (states.index(line[0]), line[1]))


class TestErrors(Papers):
    def check_error(self, error, name, formula, state, told, system=SMALL):
        for paper in (("yes", []), ("no", [("b", (), (), None)])):
            with self.assertRaises(error) as caught:
                judge_paper(system, formula, state, told, paper)
            self.assertIs(type(caught.exception), error)
            self.assertEqual(caught.exception.name, name)

    def test_state_first(self):
        for formula in (("true",), ("value", "9"), ("name", "x")):
            for told in ("01", "9", "00"):
                self.check_error(UnknownState, "z", formula, "z", told)

    def test_then_the_value(self):
        for formula in (("true",), ("value", "8"), ("name", "x")):
            self.check_error(UnknownValue, "9", formula, "a", "9")
            self.check_error(UnknownValue, "", formula, "a", "")

    def test_then_irreducible(self):
        for formula in (("true",), ("value", "8"), ("name", "x")):
            self.check_error(NotIrreducible, "00", formula, "a", "00")
            self.check_error(NotIrreducible, "11", formula, "a", "11")

    def test_then_the_formula(self):
        self.check_error(UnknownValue, "8", ("value", "8"), "a", "01")
        self.check_error(UnboundName, "x", ("or", ("name", "x"), ("value", "8")), "a", "01")
        self.check_error(UnknownValue, "8", ("or", ("value", "8"), ("name", "x")), "a", "01")

    def test_every_class_of_lattice(self):
        for lattice in every_class():
            for place in range(lattice.size):
                if place not in lattice.irreducibles():
                    name = lattice.name_at(place)
                    self.check_error(NotIrreducible, name, ("true",), "s0", name, row(lattice, 2))


class TestLimits(Papers):
    def test_largest_formula(self):
        formula = largest("most", "some")
        system = row(TWO, 3, ring=True)
        full = [(state, place, (0,) * min(len(place), 4), None)
                for state in system.states() for place in sorted(places_of(formula))]
        self.assertFalse(self.judge(system, formula, "s0", "1", ("yes", full)))
        self.assertFalse(self.judge(system, formula, "s0", "1", ("no", full)))


if __name__ == "__main__":
    unittest.main()
