"""Point 17: paper_of."""

import copy
import time
import unittest

from latticewish.combined import PairLattice, TurnedLattice
from latticewish.errors import NotIrreducible, UnboundName, UnknownState, UnknownValue
from latticewish.evaluation import value_at, values
from latticewish.families import ChainLattice, SetLattice
from latticewish.judging import judge_paper
from latticewish.papers import paper_of
from latticewish.reader import read_formula
from latticewish.systems import System
from latticewish.truths import Value
from tests.formula_samples import OFTEN, REACH, STAY, parts
from tests.meanings import is_right, meaning
from tests.own_papers import reached
from tests.system_samples import any_formula, any_name, any_nested, any_system, bottom, dice, every_class, row, top
from tests.test_values import BY_HAND, NESTED, SMALL

SETS = SetLattice(2)


class Papers(unittest.TestCase):
    def check_paper(self, system, formula, state, name, wanted=None):
        """The paper is right, its side is the wanted one, and each of its lines can come."""
        j = system.lattice.at_name(name)
        if wanted is None:
            wanted = "yes" if system.lattice.within_at(j, meaning(system, formula)[state]) else "no"
        paper = paper_of(system, formula, state, name)
        self.assertIsInstance(paper, tuple)
        side, lines = paper
        self.assertEqual(side, wanted, formula)
        self.assertIsInstance(lines, list)
        for line in lines:
            self.assertIsInstance(line, tuple)
            self.assertEqual([type(told) for told in line[:3]], [str, tuple, tuple])
            self.assertTrue(all(type(number) is int for number in line[1] + line[2]))
            self.assertIn(type(line[3]), (int, str, type(None)))
        self.assertTrue(judge_paper(system, formula, state, name, paper), (formula, paper))
        self.assertEqual(reached(system, formula, j, side, lines, state), lines)
        return paper

    def check_everywhere(self, system, formula):
        told = meaning(system, formula)
        lattice = system.lattice
        for state in system.states():
            shown = Value.bottom(lattice)
            for piece in lattice.irreducibles():
                name = lattice.name_at(piece)
                wanted = "yes" if lattice.within_at(piece, told[state]) else "no"
                if self.check_paper(system, formula, state, name, wanted)[0] == "yes":
                    shown = shown | Value(lattice, piece)
            self.assertEqual(shown, value_at(system, formula, state))


class TestPapers(Papers):
    def test_each_kind_of_formula(self):
        for text, *_ in BY_HAND:
            self.check_everywhere(SMALL, read_formula(text))

    def test_every_class_of_lattice(self):
        throws = dice(31)
        for lattice in every_class() + [PairLattice(TurnedLattice(SETS), ChainLattice(3))]:
            for shape in ("row", "ring", "any"):
                for formula in (REACH, STAY, OFTEN):
                    self.check_everywhere(any_system(throws, lattice, 4, shape), formula)

    def test_as_few_lines_as_can_come(self):
        self.assertEqual(self.check_paper(row(SETS, 3), ("mark", "m"), "s2", "01"), ("yes", [("s2", (), (), None)]))
        self.assertEqual(self.check_paper(row(SETS, 3), ("mark", "m"), "s1", "01"), ("no", [("s1", (), (), None)]))
        self.assertEqual(self.check_paper(row(SETS, 3), ("some", ("mark", "m")), "s1", "10"),
                         ("yes", [("s1", (), (), "s2"), ("s2", (0,), (), None)]))
        self.assertEqual(self.check_paper(row(SETS, 3), ("all", ("false",)), "s2", "10"),
                         ("yes", [("s2", (), (), None)]))
        self.assertEqual(self.check_paper(row(SETS, 3), ("or", ("mark", "k"), ("true",)), "s0", "10"),
                         ("yes", [("s0", (), (), 1), ("s0", (1,), (), None)]))
        self.assertEqual(self.check_paper(row(SETS, 3), ("and", ("true",), ("mark", "k")), "s0", "10"),
                         ("no", [("s0", (), (), 1), ("s0", (1,), (), None)]))

    def test_binders_in_one_another(self):
        throws = dice(32)
        for text in NESTED:
            for shape in ("row", "ring"):
                for many in (5, 8):
                    lattice = throws.choice((ChainLattice(2), SETS))
                    system = any_system(throws, lattice, many, shape)
                    formula, told = read_formula(text), values(system, read_formula(text))
                    for state in system.states():
                        for piece in lattice.irreducibles():
                            within = lattice.within_at(piece, lattice.at_name(told[state]))
                            self.check_paper(system, formula, state, lattice.name_at(piece), "yes" if within else "no")

    def test_any_formulas(self):
        throws = dice(33)
        for number in range(500):
            lattice = throws.choice(every_class())
            system = any_system(throws, lattice, throws.randrange(1, 6), throws.choice(("any", "row", "ring")))
            formula = any_formula(throws, lattice, throws.randrange(1, 7))
            if number % 2:
                formula = any_nested(throws, lattice, throws.randrange(2, 5), 3)
            for piece in lattice.irreducibles()[:3]:
                paper = self.check_paper(system, formula, system.states()[-1], lattice.name_at(piece))
                self.assertTrue(is_right(system, formula, system.states()[-1], lattice.name_at(piece), paper))

    def test_without_a_needless_wait(self):
        """Four stretches of a row along each of which another name goes, and inner names that lead nowhere."""
        begin = time.monotonic()
        goes = " ".join(f"(or (and (mark {name}) (some {name}))" for name in "abcd") + " (mark m)" + ")" * 4
        stays = ("(or (mark m) (or d (or c (or b (or (some (and a (and b (and c d)))) "
                 "(and (all d) (and (all c) (some a))))))))")
        for kinds in (("least",) * 4, ("most",) * 4, ("least", "most") * 2, ("most", "least") * 2):
            for body in (goes, stays):
                text = " ".join(f"({kind} {name}" for kind, name in zip(kinds, "abcd")) + f" {body}" + ")" * 4
                formula = read_formula(text)
                self.assertLessEqual(parts(formula), 44)
                for ring in (False, True):
                    told = row(ChainLattice(2), 8, ring)
                    marks = [("dcba"[k // 2], f"s{k}", "1") for k in range(8)]
                    system = System(told.lattice, told.states(), marks + told.marks(), told.arrows())
                    for state in ("s0", "s5"):
                        value = values(system, formula)[state]
                        self.check_paper(system, formula, state, "1", "yes" if value == "1" else "no")
        self.assertLess(time.monotonic() - begin, 20)

    def test_arguments_stay(self):
        system = System(SETS, SMALL.states(), SMALL.marks(), SMALL.arrows())
        formula = copy.deepcopy(OFTEN)
        paper = paper_of(system, formula, "b", "01")
        paper[1].clear()
        again = paper_of(system, formula, "b", "01")
        self.assertTrue(judge_paper(system, OFTEN, "b", "01", again))
        self.assertEqual(formula, OFTEN)
        self.assertEqual((system.states(), system.marks(), system.arrows()),
                         (SMALL.states(), SMALL.marks(), SMALL.arrows()))


class TestOtherSystems(Papers):
    def test_papers_stay_right(self):
        throws = dice(34)
        for number in range(300):
            lattice = throws.choice(every_class()[:-1])
            system = any_system(throws, lattice, throws.randrange(1, 6), throws.choice(("any", "row", "ring")))
            others = any_formula(throws, lattice, 6), any_nested(throws, lattice, 2)
            formula = throws.choice((REACH, STAY, OFTEN) + others)
            name = lattice.name_at(throws.choice(lattice.irreducibles()))
            for state in system.states():
                paper = paper_of(system, formula, state, name)
                other = moved(throws, system, paper[0])
                self.assertTrue(judge_paper(other, formula, state, name, paper))
                self.assertEqual(paper_of(other, formula, state, name)[0], paper[0])


def moved(throws, system, side):
    """The system with more in it for "yes" and with less for "no", and with arrows that do not speak against it."""
    lattice = system.lattice
    both = lattice.join_at if side == "yes" else lattice.meet_at

    def change(name):
        other = any_name(throws, lattice) if throws.random() < 0.6 else name
        return lattice.name_at(both(lattice.at_name(name), lattice.at_name(other)))

    marks = [(mark, state, change(name)) for mark, state, name in system.marks()]
    told = [(mark, state) for mark, state, _ in marks]
    if side == "yes":
        marks += [("m", state, any_name(throws, lattice)) for state in system.states() if ("m", state) not in told]
    arrows = [(start, end, change(has), change(lacks)) for start, end, has, lacks in system.arrows()]
    pairs = [arrow[:2] for arrow in arrows]
    for start in system.states():
        for end in system.states():
            if (start, end) not in pairs and throws.random() < 0.5:
                free = any_name(throws, lattice)
                arrows.append((start, end) + ((free, top(lattice)) if side == "yes" else (bottom(lattice), free)))
    return System(lattice, system.states(), marks, arrows)


class TestErrors(unittest.TestCase):
    def check_error(self, error, name, formula, state, told, system=SMALL):
        with self.assertRaises(error) as caught:
            paper_of(system, formula, state, told)
        self.assertIs(type(caught.exception), error)
        self.assertEqual(caught.exception.name, name)

    def test_in_their_order(self):
        bad = ("or", ("name", "x"), ("value", "8"))
        for told in ("01", "9", "00"):
            self.check_error(UnknownState, "z", bad, "z", told)
        self.check_error(UnknownValue, "9", bad, "a", "9")
        self.check_error(NotIrreducible, "00", bad, "a", "00")
        self.check_error(NotIrreducible, "11", bad, "a", "11")
        self.check_error(UnboundName, "x", bad, "a", "01")
        self.check_error(UnknownValue, "8", ("or", ("value", "8"), ("name", "x")), "a", "01")

    def test_no_irreducible_values(self):
        self.check_error(NotIrreducible, "0", ("true",), "s0", "0", row(ChainLattice(1), 2))


if __name__ == "__main__":
    unittest.main()
