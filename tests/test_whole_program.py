"""Point 1 over the whole program: what is handed in stays, what is returned is the caller's."""

import ast
import copy
import unittest
from pathlib import Path

from latticewish import comparing, evaluation, formulas, judging, maps, papers
from latticewish.families import SetLattice
from latticewish.systems import System
from latticewish.truths import Value
from latticewish.workshop import Workshop
from tests.formula_samples import OFTEN, OPEN, REACH

SETS = SetLattice(2)
PACKAGE = Path(maps.__file__).parent


def system():
    return System(SETS, ["a", "b", "c"], [("m", "b", "11"), ("n", "a", "01")],
                  [("a", "b", "01", "10"), ("b", "c", "11", "00"), ("c", "c", "10", "01")])


def shop():
    made = Workshop(SETS)
    for state in "ab":
        made.state(state)
    made.mark("m", "b", "10")
    made.arrow("a", "b", "11", "01")
    made["f"] = "(some (mark m))"
    made["g"] = "(least x (or f x))"
    made.wish("f", "11")
    made.wish("g", "11")
    return made


SYSTEM, SHOP, VALUE = system(), shop(), Value.named(SETS, "11")
MAP = maps.LatticeMap(SETS, SETS, ["00", "10", "01", "11"])
# Each call that returns a list or a dict, beside the object that could have kept it.
ASKS = {
    "irreducibles": SETS.irreducibles, "pieces": lambda: VALUE.pieces, "free_names": lambda: formulas.free_names(OPEN),
    "states": SYSTEM.states, "marks": SYSTEM.marks, "arrows": SYSTEM.arrows,
    "arrows_from": lambda: [arrow[0] for arrow in SYSTEM.arrows_from("a")], "from": lambda: SYSTEM.arrows_from("a"),
    "values": lambda: evaluation.values(SYSTEM, OFTEN), "lines": lambda: papers.paper_of(SYSTEM, OFTEN, "a", "01")[1],
    "matched": lambda: comparing.matched(SYSTEM, "01"), "groups": lambda: comparing.groups(SYSTEM),
    "group": lambda: comparing.groups(SYSTEM)[0], "folded": lambda: comparing.folded(SYSTEM).arrows(),
    "carried": lambda: maps.carried(MAP, SYSTEM).marks(), "turned": lambda: maps.turned(SYSTEM).marks(),
    "names": SHOP.names, "broken": lambda: SHOP.broken("a"), "shop": lambda: SHOP.system().marks()}


class TestAnswers(unittest.TestCase):
    def test_each_returned_list_is_the_callers(self):
        for word, ask in ASKS.items():
            before = copy.copy(ask())
            self.assertIn(type(before), (list, dict), word)
            self.assertTrue(before, word)
            answer = ask()
            answer.clear()
            self.assertEqual(ask(), before, word)
            answer = ask()
            if isinstance(answer, dict):
                answer["z"] = "z"
            else:
                answer.append("z")
                answer[0] = "z"
            self.assertEqual(ask(), before, word)

    def test_asking_changes_nothing_that_was_handed_in(self):
        told, paper = system(), papers.paper_of(SYSTEM, REACH, "a", "01")
        paper = paper[0], list(paper[1])
        before = told.states(), told.marks(), told.arrows(), copy.deepcopy(paper)
        evaluation.values(told, OFTEN)
        evaluation.rounds(told, OFTEN)
        evaluation.value_at(told, OFTEN, "a")
        judging.judge_paper(told, REACH, "a", "01", paper)
        papers.paper_of(told, OFTEN, "a", "01")
        comparing.below(told, "a", "b")
        comparing.alike(told, "a", "b")
        comparing.matched(told, "01")
        comparing.degree(told, "a", "b")
        comparing.groups(told)
        comparing.folded(told)
        maps.carried(MAP, told)
        maps.turned(told)
        self.assertEqual((told.states(), told.marks(), told.arrows(), paper), before)


class TestNothingFromOutside(unittest.TestCase):
    def test_no_names_of_clocks_files_and_the_like(self):
        barred = {"open", "input", "print", "time", "random", "os", "sys", "eval", "exec", "id", "hash", "globals"}
        for path in PACKAGE.glob("*.py"):
            for node in ast.walk(ast.parse(path.read_text())):
                if isinstance(node, ast.Name):
                    self.assertNotIn(node.id, barred, path.name)


if __name__ == "__main__":
    unittest.main()
