"""The interface, and what can be counted of the rules for the files of the package."""

import ast
import unittest
from pathlib import Path

from latticewish import combined, comparing, errors, evaluation, families, faults, formulas, judging, labels, lattices
from latticewish import maps, papers, reader, systems, truths, workshop, writer

METHODS = ("within_at", "join_at", "meet_at", "name_at", "at_name", "irreducibles")
PACKAGE = Path(lattices.__file__).parent
MADE = (
    (lattices, "OrderLattice", (["a"], [])), (families, "ChainLattice", (1,)),
    (families, "SetLattice", (1,)), (families, "DownLattice", (["a"], [])),
    (combined, "PairLattice", (families.ChainLattice(1), families.ChainLattice(2))),
    (combined, "TurnedLattice", (families.ChainLattice(2),)))
FUNCTIONS = (
    (faults, "first_fault"), (labels, "read_lattice"), (formulas, "free_names"), (formulas, "dual"),
    (formulas, "unfolded"), (formulas, "simpler"), (reader, "read_formula"), (writer, "write_formula"),
    (evaluation, "values"), (evaluation, "value_at"), (evaluation, "rounds"), (judging, "judge_paper"),
    (papers, "paper_of"), (comparing, "below"), (comparing, "alike"), (comparing, "matched"), (comparing, "degree"),
    (comparing, "groups"), (comparing, "folded"), (maps, "carried"), (maps, "turned"), (maps, "carried_formula"))
VALUE_METHODS = (
    "__or__", "__and__", "__le__", "__lt__", "__eq__", "__str__", "implies", "pieces", "named", "bottom", "top")


class TestInterface(unittest.TestCase):
    def test_each_class_has_its_own_methods(self):
        for module, word, _ in MADE + ((lattices, "Lattice", ()),):
            for method in METHODS:
                self.assertIn(method, vars(getattr(module, word)), word)

    def test_each_class_stands_in_its_file(self):
        for module, word, _ in MADE + ((lattices, "Lattice", ()),):
            self.assertEqual(getattr(module, word).__module__, module.__name__)
        for word in ("LatticeError", "NameMissing", "BadLattice", "UnknownValue"):
            self.assertEqual(getattr(errors, word).__module__, errors.__name__)

    def test_each_function_stands_in_its_file(self):
        for module, word in FUNCTIONS:
            self.assertEqual(getattr(module, word).__module__, module.__name__)

    def test_attributes_are_set_at_once(self):
        for module, word, told in MADE:
            made = getattr(module, word)(*told)
            self.assertIsInstance(made, lattices.Lattice)
            for attribute in ("label", "size", "bottom_at", "top_at"):
                self.assertIn(attribute, vars(made), word)

    def test_attributes_of_lattices_made_of_lattices(self):
        two, three = families.ChainLattice(2), families.ChainLattice(3)
        self.assertIs(vars(combined.PairLattice(two, three))["left"], two)
        self.assertIs(vars(combined.PairLattice(two, three))["right"], three)
        self.assertIs(vars(combined.TurnedLattice(two))["inner"], two)

    def test_values(self):
        self.assertEqual(truths.Value.__module__, truths.__name__)
        for method in VALUE_METHODS:
            self.assertIn(method, vars(truths.Value))
        self.assertIsInstance(vars(truths.Value)["pieces"], property)
        for method in ("named", "bottom", "top"):
            self.assertIsInstance(vars(truths.Value)[method], classmethod)
        lattice = families.ChainLattice(3)
        self.assertEqual(vars(truths.Value(lattice, 2)), {"lattice": lattice, "place": 2, "name": "2"})

    def test_systems(self):
        self.assertEqual(systems.System.__module__, systems.__name__)
        for method in ("states", "marks", "arrows", "mark_at", "arrows_from"):
            self.assertIn(method, vars(systems.System))
        lattice = families.ChainLattice(3)
        self.assertIs(vars(systems.System(lattice, [], [], []))["lattice"], lattice)

    def test_maps(self):
        self.assertEqual(maps.LatticeMap.__module__, maps.__name__)
        for method in ("image", "fault", "__call__", "__mul__", "__eq__"):
            self.assertIn(method, vars(maps.LatticeMap))
        for method in ("same", "cut"):
            self.assertIsInstance(vars(maps.LatticeMap)[method], classmethod)
        two, three = families.ChainLattice(2), families.ChainLattice(3)
        made = maps.LatticeMap(two, three, ["0", "2"])
        self.assertIs(vars(made)["source"], two)
        self.assertIs(vars(made)["target"], three)

    def test_workshop(self):
        self.assertEqual(workshop.Workshop.__module__, workshop.__name__)
        for method in ("state", "mark", "arrow", "remove", "__getitem__", "__setitem__", "__contains__", "__len__",
                       "names", "formula", "drop", "system", "value", "wish", "broken", "attempt"):
            self.assertIn(method, vars(workshop.Workshop))
        lattice = families.ChainLattice(3)
        self.assertIs(vars(workshop.Workshop(lattice))["lattice"], lattice)


class TestFiles(unittest.TestCase):
    def test_sizes_and_characters(self):
        for path in PACKAGE.glob("*.py"):
            text = path.read_text()
            self.assertTrue(text.isascii() and "\t" not in text, path.name)
            self.assertLessEqual(len(text.splitlines()), 399, path.name)
            self.assertLessEqual(max(len(line) for line in text.splitlines()), 120, path.name)

    def test_lengths_of_functions(self):
        for path in PACKAGE.glob("*.py"):
            for node in ast.walk(ast.parse(path.read_text())):
                if isinstance(node, ast.FunctionDef):
                    self.assertLessEqual(node.end_lineno - node.lineno + 1, 40, (path.name, node.name))

    def test_imports(self):
        for path in PACKAGE.glob("*.py"):
            for node in ast.walk(ast.parse(path.read_text())):
                self.assertNotIsInstance(node, ast.Import)
                if isinstance(node, ast.ImportFrom):
                    self.assertTrue(node.module.startswith("latticewish."), path.name)

    def test_nothing_but_python_files(self):
        for path in PACKAGE.iterdir():
            self.assertTrue(path.suffix == ".py" or path.name == "__pycache__", path.name)


if __name__ == "__main__":
    unittest.main()
