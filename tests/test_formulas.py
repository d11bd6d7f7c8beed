"""Point 11: free_names, dual, unfolded, simpler."""

import unittest
from itertools import product

from latticewish.formulas import dual, free_names, is_name, simpler, unfolded
from latticewish.reader import read_formula
from latticewish.writer import write_formula
from tests.formula_samples import KINDS, OFTEN, REACH, SAMPLES, STAY, deep, depth, only_tuples, parts, wide


def read(text):
    return read_formula(text)


def formulas_of_size(many):
    """All formulas of so many parts over few words and names."""
    if many == 1:
        return [("true",), ("false",), ("mark", "m"), ("name", "x"), ("name", "y")]
    found = []
    for part in formulas_of_size(many - 1):
        found += [("some", part), ("all", part), ("least", "x", part), ("most", "x", part), ("most", "y", part)]
    for left in range(1, many - 1):
        for first, second in product(formulas_of_size(left), formulas_of_size(many - 1 - left)):
            found += [("and", first, second), ("or", first, second)]
    return found


class TestNames(unittest.TestCase):
    def test_names(self):
        for name in ("a", "z", "a1", "m00000000000", "abcdefghijkl", "name", "order", "truth", "somes"):
            self.assertIs(is_name(name), True)
        for name in ("", "1", "1a", "A", "aB", "a b", "a_", "abcdefghijklm", "\u00e9", "a\n", "true", "false", "value",
                     "mark", "and", "or", "some", "all", "least", "most", " a", "a ", "\u0661", "x\u0661"):
            self.assertIs(is_name(name), False)


class TestFreeNames(unittest.TestCase):
    def check_names(self, text, names):
        answer = free_names(read(text))
        self.assertIs(type(answer), list)
        self.assertEqual(answer, names, text)

    def test_free(self):
        self.check_names("x", ["x"])
        self.check_names("(and x x)", ["x"])
        self.check_names("(some (all x))", ["x"])
        self.check_names("(least x y)", ["y"])
        self.check_names("(least x (most y (or z (and x y))))", ["z"])

    def test_bound(self):
        for text in ("true", "false", "(value x)", "(mark x)", "(least x x)", "(most x (some x))", "(least x true)",
                     "(most y (least x (and x y)))", "(least x (value x))", "(least x (mark y))"):
            self.check_names(text, [])

    def test_bound_and_free(self):
        self.check_names("(and x (least x x))", ["x"])
        self.check_names("(or (least x x) x)", ["x"])
        self.check_names("(least y (and x (most x (or x y))))", ["x"])
        self.check_names("(and (least x y) (least y x))", ["x", "y"])
        self.check_names("(most x (or y (least y (and x y))))", ["y"])

    def test_bound_twice(self):
        self.check_names("(least x (and x (most x x)))", [])
        self.check_names("(least x (and (most x (some x)) x))", [])
        self.check_names("(and (least x x) (most x x))", [])
        self.check_names("(and (least x x) (and x (most x x)))", ["x"])

    def test_ascending(self):
        self.check_names("(and z (or a (and m10 (or m9 (and m b)))))", ["a", "b", "m", "m10", "m9", "z"])
        self.check_names("(or (or c b) (or a (and b a)))", ["a", "b", "c"])

    def test_the_list_is_the_callers(self):
        formula = ("and", ("name", "b"), ("name", "a"))
        free_names(formula).clear()
        free_names(formula).append("c")
        self.assertEqual(free_names(formula), ["a", "b"])


class TestDual(unittest.TestCase):
    def test_each_word(self):
        pairs = (
            ("true", "false"), ("(value 01)", "(value 01)"), ("(mark m)", "(mark m)"), ("x", "x"),
            ("(and x y)", "(or x y)"), ("(some x)", "(all x)"), ("(least x y)", "(most x y)"),
            ("(least x x)", "(most x x)"))
        for first, second in pairs:
            self.assertEqual(dual(read(first)), read(second))
            self.assertEqual(dual(read(second)), read(first))

    def test_everywhere(self):
        text = "(least x (or (and (mark m) false) (most y (some (all (and true (or x (value true))))))))"
        turned = "(most x (and (or (mark m) true) (least y (all (some (or false (and x (value true))))))))"
        self.assertEqual(dual(read(text)), read(turned))
        self.assertEqual(dual(("and", ("mark", "all"), ("value", "true"))), ("or", ("mark", "all"), ("value", "true")))
        self.assertEqual(dual(REACH), ("most", "x", ("and", ("mark", "m"), ("all", ("name", "x")))))

    def test_twice(self):
        for formula in SAMPLES + [deep(80), wide(8)]:
            self.assertEqual(dual(dual(formula)), formula)
            self.assertTrue(only_tuples(dual(formula)))
            self.assertEqual(free_names(dual(formula)), free_names(formula))
            self.assertEqual((parts(dual(formula)), depth(dual(formula))), (parts(formula), depth(formula)))


class TestUnfolded(unittest.TestCase):
    def check_unfolded(self, text, expected):
        self.assertEqual(write_formula(unfolded(read(text))), expected)

    def test_least_and_most(self):
        whole = "(least x (or (mark m) (some x)))"
        self.check_unfolded(whole, f"(or (mark m) (some {whole}))")
        whole = "(most y (and (mark m) (all y)))"
        self.check_unfolded(whole, f"(and (mark m) (all {whole}))")
        self.check_unfolded("(least x x)", "(least x x)")
        self.check_unfolded("(most x true)", "true")
        self.check_unfolded("(least x (mark x))", "(mark x)")
        self.check_unfolded("(most x (value x))", "(value x)")

    def test_each_occurrence(self):
        whole = "(most x (and (some x) (or x (all x))))"
        self.check_unfolded(whole, f"(and (some {whole}) (or {whole} (all {whole})))")

    def test_another_binder_inside(self):
        whole = "(most y (least x (or (and (mark m) (some y)) (some x))))"
        self.check_unfolded(whole, f"(least x (or (and (mark m) (some {whole})) (some x)))")
        whole = "(least x (least y (most z (and x (and y z)))))"
        self.check_unfolded(whole, f"(least y (most z (and {whole} (and y z))))")

    def test_an_inner_binder_of_the_same_name(self):
        whole = "(least x (and x (most x (or x (mark m)))))"
        self.check_unfolded(whole, f"(and {whole} (most x (or x (mark m))))")
        self.check_unfolded("(least x (least x x))", "(least x x)")
        whole = "(most x (or (least y (and x y)) (least x (least y (and x y)))))"
        self.check_unfolded(whole, f"(or (least y (and {whole} y)) (least x (least y (and x y))))")

    def test_others_stay(self):
        for text in ("true", "false", "(value 0)", "(mark m)", "(some (least x (some x)))", "(all (most x x))",
                     "(and (least x x) (most x x))", "(or (mark m) (least x x))"):
            self.assertEqual(unfolded(read(text)), read(text))

    def test_closed_again(self):
        for formula in (REACH, STAY, OFTEN, deep(80)):
            self.assertEqual(free_names(unfolded(formula)), [])
            self.assertTrue(only_tuples(unfolded(formula)))
            again = unfolded(unfolded(formula))
            self.assertEqual(free_names(again), [])


class TestSimpler(unittest.TestCase):
    def check_simpler(self, text, expected):
        self.assertEqual(write_formula(simpler(read(text))), expected, text)

    def test_and(self):
        self.check_simpler("(and true x)", "x")
        self.check_simpler("(and x true)", "x")
        self.check_simpler("(and false x)", "false")
        self.check_simpler("(and x false)", "false")
        self.check_simpler("(and true false)", "false")
        self.check_simpler("(and false true)", "false")
        self.check_simpler("(and true true)", "true")
        self.check_simpler("(and false false)", "false")
        self.check_simpler("(and x x)", "x")
        self.check_simpler("(and x y)", "(and x y)")

    def test_or(self):
        self.check_simpler("(or false x)", "x")
        self.check_simpler("(or x false)", "x")
        self.check_simpler("(or true x)", "true")
        self.check_simpler("(or x true)", "true")
        self.check_simpler("(or true false)", "true")
        self.check_simpler("(or false true)", "true")
        self.check_simpler("(or true true)", "true")
        self.check_simpler("(or false false)", "false")
        self.check_simpler("(or (some (mark m)) (some (mark m)))", "(some (mark m))")
        self.check_simpler("(or (mark m) (value m))", "(or (mark m) (value m))")

    def test_binders(self):
        self.check_simpler("(least x (mark x))", "(mark x)")
        self.check_simpler("(most x (some y))", "(some y)")
        self.check_simpler("(least x x)", "false")
        self.check_simpler("(most x x)", "true")
        self.check_simpler("(least x y)", "y")
        self.check_simpler("(most x (least x (some x)))", "(least x (some x))")
        self.check_simpler("(least x (some x))", "(least x (some x))")
        self.check_simpler("(most x (and y (all x)))", "(most x (and y (all x)))")
        self.check_simpler("(least x true)", "true")
        self.check_simpler("(most x false)", "false")
        self.check_simpler("(least x (or y (mark x)))", "(or y (mark x))")

    def test_some_and_all(self):
        self.check_simpler("(some false)", "false")
        self.check_simpler("(all true)", "true")
        self.check_simpler("(some true)", "(some true)")
        self.check_simpler("(all false)", "(all false)")
        self.check_simpler("(some (value 0))", "(some (value 0))")
        self.check_simpler("(all (value 1))", "(all (value 1))")

    def test_what_stays(self):
        for text in ("true", "false", "x", "(mark m)", "(value true)", "(value false)", "(and (value true) x)",
                     "(or (value false) (mark false1))", "(and (some x) (all x))", "(and x (or x y))",
                     "(and (and x y) (and y x))", "(least x (or x y))", "(some (some (all (all x))))"):
            self.check_simpler(text, text)

    def test_several_in_one_another(self):
        self.check_simpler("(some (and x (some (and true false))))", "false")
        self.check_simpler("(all (or (all (or (mark m) true)) y))", "true")
        self.check_simpler("(least x (most y (least z z)))", "false")
        self.check_simpler("(and (or false x) (and true x))", "x")
        self.check_simpler("(or (and x (and y true)) (and (or x false) y))", "(and x y)")
        self.check_simpler("(most y (and (all true) (or y (some false))))", "true")

    def test_what_only_a_simpler_part_makes_possible(self):
        self.check_simpler("(least x (and true x))", "false")
        self.check_simpler("(most x (or x (and x x)))", "true")
        self.check_simpler("(least x (or (mark m) (and false x)))", "(mark m)")
        self.check_simpler("(least x (least y (or x y)))", "(least x (least y (or x y)))")
        self.check_simpler("(least x (least y x))", "false")
        self.check_simpler("(most x (least x (or (mark m) x)))", "(least x (or (mark m) x))")
        self.check_simpler("(and (least x x) y)", "false")
        self.check_simpler("(or (some false) (most z z))", "true")
        self.check_simpler("(some (most x (and false x)))", "false")
        self.check_simpler("(all (least x (or x true)))", "true")
        self.check_simpler("(and (some (and x true)) (some (or false x)))", "(some x)")

    def test_not_again_inside_another_binder(self):
        self.check_simpler("(most y (least x (or x (most y (and x y)))))", "(least x (or x (most y (and x y))))")

    def applies(self, formula):
        """Whether one of the replacements applies to the formula itself."""
        word, inside = formula[0], [part for part in formula[1:] if isinstance(part, tuple)]
        if word in ("and", "or"):
            return inside[0] == inside[1] or ("true",) in inside or ("false",) in inside
        if word in ("least", "most"):
            return formula[1] not in free_names(inside[0]) or inside[0] == ("name", formula[1])
        return formula in (("some", ("false",)), ("all", ("true",)))

    def check_nothing_applies(self, formula):
        self.assertFalse(self.applies(formula), formula)
        for part in formula[1:]:
            if isinstance(part, tuple):
                self.check_nothing_applies(part)

    def test_twice(self):
        small = [formula for many in (1, 2, 3) for formula in formulas_of_size(many)]
        for formula in SAMPLES + small + formulas_of_size(4)[::7] + [deep(80), wide(8)]:
            once = simpler(formula)
            self.assertEqual(simpler(once), once)
            self.assertTrue(only_tuples(once))
            self.assertLessEqual(parts(once), parts(formula))
            self.assertLessEqual(set(free_names(once)), set(free_names(formula)))
            self.check_nothing_applies(once)
            self.assertEqual(dual(simpler(dual(formula))), once)


class TestGreatFormulas(unittest.TestCase):
    def row(self, many):
        formula = ("name", "x")
        for _ in range(many - 1):
            formula = ("some", formula)
        return formula

    def test_eighty_deep(self):
        for many in (80, 95):
            formula = deep(many)
            self.assertEqual((depth(formula), free_names(formula)), (many, []))
            self.assertEqual(dual(dual(formula)), formula)
            self.assertEqual(simpler(simpler(formula)), simpler(formula))
            self.assertEqual(write_formula(formula).count("most"), write_formula(dual(formula)).count("least"))

    def test_a_row(self):
        row = self.row(80)
        self.assertEqual(free_names(row), ["x"])
        self.assertEqual(simpler(row), row)
        self.assertEqual(dual(row), eval(repr(row).replace("some", "all")))
        whole = ("least", "x", self.row(79))
        self.assertEqual((depth(whole), depth(unfolded(whole))), (80, 78 + 80))
        self.assertEqual(write_formula(unfolded(whole)), "(some " * 78 + write_formula(whole) + ")" * 78)
        self.assertEqual(free_names(unfolded(unfolded(whole))), [])

    def test_eighty_binders(self):
        formula = ("name", "x79")
        for k in range(78, -1, -1):
            formula = (("least", "most")[k % 2], f"x{k}", formula)
        self.assertEqual((depth(formula), free_names(formula)), (80, ["x79"]))
        self.assertEqual(simpler(formula), ("name", "x79"))
        inner = ("name", "x0")
        for k in range(79):
            inner = ("least", "x", inner) if k % 2 else ("or", inner, ("name", "x"))
        self.assertEqual(free_names(inner), ["x", "x0"])
        self.assertEqual(simpler(inner), inner)

    def test_it_all_falls_together(self):
        formula = ("true",)
        for _ in range(79):
            formula = ("all", formula)
        self.assertEqual(simpler(formula), ("true",))
        formula = ("mark", "m")
        for level in range(9):
            formula = (("and", "or")[level % 2], formula, formula)
        self.assertEqual((parts(formula), simpler(formula)), (1023, ("mark", "m")))

    def test_hundreds_of_parts(self):
        formula = wide(9)
        self.assertEqual(parts(formula), 1023)
        self.assertEqual((free_names(formula), simpler(formula), dual(dual(formula))), ([], formula, formula))
        names = [("name", f"n{k}") for k in range(300)]
        row = names[0]
        for level in range(8):
            row = ("and", row, ("or", names[level], names[299 - level]))
        self.assertEqual(free_names(row), sorted([f"n{k}" for k in range(8)] + [f"n{299 - k}" for k in range(8)]))


class TestArguments(unittest.TestCase):
    def test_formulas_stay(self):
        for formula in SAMPLES + [deep(40)]:
            before = repr(formula)
            free_names(formula)
            dual(formula)
            unfolded(formula)
            simpler(formula)
            write_formula(formula)
            self.assertEqual(repr(formula), before)

    def test_tuples_throughout(self):
        for formula in SAMPLES + KINDS + [deep(30)]:
            for made in (dual(formula), unfolded(formula), simpler(formula), read_formula(write_formula(formula))):
                self.assertTrue(only_tuples(made))


if __name__ == "__main__":
    unittest.main()
