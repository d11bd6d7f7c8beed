"""Points 9 and 10: read_formula and write_formula."""

import unittest
from itertools import product

from latticewish.errors import BadText
from latticewish.reader import read_formula
from latticewish.writer import write_formula
from tests.formula_samples import KINDS, OFTEN, REACH, SAMPLES, deep, depth, only_tuples, parts, wide

WRITTEN = (
    ("true", ("true",)), ("false", ("false",)), ("x", ("name", "x")), ("(value 01)", ("value", "01")),
    ("(mark m)", ("mark", "m")), ("(and true (mark m))", ("and", ("true",), ("mark", "m"))),
    ("(or x false)", ("or", ("name", "x"), ("false",))), ("(some (mark m))", ("some", ("mark", "m"))),
    ("(all y)", ("all", ("name", "y"))), ("(least x x)", ("least", "x", ("name", "x"))),
    ("(most y (some y))", ("most", "y", ("some", ("name", "y")))),
    ("(least x (or (mark m) (some x)))", REACH),
    ("(most y (least x (or (and (mark m) (some y)) (some x))))", OFTEN))
WORDS = ("true", "false", "value", "mark", "and", "or", "some", "all", "least", "most")


def is_name(word):
    signs = "abcdefghijklmnopqrstuvwxyz0123456789"
    return 1 <= len(word) <= 12 and all(s in signs for s in word) and not word[0].isdigit() and word not in WORDS


AFTER = {
    "value": ["value"], "mark": ["name"], "and": ["formula"] * 2, "or": ["formula"] * 2, "some": ["formula"],
    "all": ["formula"], "least": ["name", "formula"], "most": ["name", "formula"]}


def first_wrong(text):
    """The index that BadText has to have, or None: what may come next is kept as a row of expectations."""
    wanted, opened, at = ["formula"], 0, 0
    while at < len(text):
        if text[at] == " ":
            at += 1
            continue
        end = at + 1
        while text[at] not in "()" and end < len(text) and text[end] not in " ()":
            end += 1
        word = text[at:end]
        want = wanted.pop(0) if wanted else "nothing"
        if want == "formula" and word == "(" and opened < 40:
            opened += 1
            wanted = ["word"] + wanted
        elif want == "word" and word in AFTER:
            wanted = AFTER[word] + [")"] + wanted
        elif want == ")" and word == ")":
            opened -= 1
        elif not (want == "formula" and (word in ("true", "false") or is_name(word))
                  or want == "name" and is_name(word) or want == "value" and word not in ("(", ")")):
            return at
        at = end
    return len(text) if wanted else None


class Texts(unittest.TestCase):
    def check_bad(self, text, at):
        with self.assertRaises(BadText) as caught:
            read_formula(text)
        self.assertEqual(caught.exception.at, at, text)
        self.assertIs(type(caught.exception.at), int)

    def check_as_told(self, text):
        at = first_wrong(text)
        if at is None:
            formula = read_formula(text)
            self.assertTrue(only_tuples(formula))
            self.assertEqual(read_formula(write_formula(formula)), formula)
        else:
            self.check_bad(text, at)


class TestRightTexts(Texts):
    def test_written_form(self):
        for text, formula in WRITTEN:
            self.assertEqual(read_formula(text), formula)
            self.assertEqual(write_formula(formula), text)

    def test_there_and_back(self):
        for formula in SAMPLES + [deep(35), wide(5)]:
            text = write_formula(formula)
            self.assertIs(type(text), str)
            self.assertEqual(read_formula(text), formula)
            self.assertEqual(write_formula(read_formula(text)), text)
            self.assertTrue(only_tuples(read_formula(text)))

    def test_each_kind_in_each_other(self):
        for a, b in product(KINDS, KINDS):
            for formula in (("and", a, b), ("or", a, b), ("some", ("all", a)), ("least", "x", ("most", "z", b))):
                self.assertEqual(read_formula(write_formula(formula)), formula)

    def test_blanks(self):
        for text in ("(least x (or (mark m) (some x)))", " (least x (or (mark m) (some x)))",
                     "(least x (or (mark m) (some x)))  ", "   (  least   x (or( mark m )(some x ) ) )  ",
                     "(least x(or(mark m)(some x)))"):
            self.assertEqual(read_formula(text), REACH)
        self.assertEqual(read_formula("  true "), ("true",))
        self.assertEqual(read_formula(" x"), ("name", "x"))
        self.assertEqual(read_formula("(and(and a b)c)"),
                         ("and", ("and", ("name", "a"), ("name", "b")), ("name", "c")))
        self.assertEqual(read_formula("(and true(value 1))"), ("and", ("true",), ("value", "1")))

    def test_names(self):
        for name in ("a", "z", "x1", "a00000000000", "abcdefghijkl", "name", "names", "order", "trues", "leastx"):
            self.assertEqual(read_formula(name), ("name", name))
            self.assertEqual(read_formula(f"(mark {name})"), ("mark", name))
            self.assertEqual(read_formula(f"(least {name} {name})"), ("least", name, ("name", name)))
            self.assertEqual(read_formula(f"(most {name} true)"), ("most", name, ("true",)))
            self.assertEqual(write_formula(("most", name, ("name", name))), f"(most {name} {name})")

    def test_names_of_values(self):
        for name in WORDS + ("name", "0", "01", "12345678901234567890", "{}", "{a,b}", "<0/{a}>", "<<0/1>/x>", "A", "%",
                             "\n", "\t", "a\tb", "\n1", "1\n", "\r", "\u00a0", "\u00e9", "-1", "'", '"', ";", "[", "\\",
                             "a" * 300):
            self.assertEqual(read_formula(f"(value {name})"), ("value", name))
            self.assertEqual(read_formula(f"( value  {name} )"), ("value", name))
            self.assertEqual(write_formula(("value", name)), f"(value {name})")


class TestWrongTexts(Texts):
    def test_ends_too_early(self):
        for text in ("", " ", "     ", "(", "( ", "(and", "(and ", "(and true", "(and true false", "(and true false ",
                     "(value", "(value ", "(value 01", "(mark", "(mark m", "(least", "(least x", "(least x x", "(some",
                     "(some (all x)", "(most x (or x (value true)) ", "(or (mark m)", "(value \n"):
            self.check_bad(text, len(text))
        for text, _ in WRITTEN:
            for end in range(len(text)):
                self.check_as_told(text[:end])
                self.check_as_told(text[:end] + "  ")

    def test_tokens_behind_a_formula(self):
        for text, _ in WRITTEN:
            for more in ("true", "x", "(", ")", "(mark m)", "\n", "0", "X", "and"):
                self.check_bad(f"{text} {more}", len(text) + 1)
                self.check_bad(f"  {text}   {more} ", len(text) + 5)
        self.check_bad("(mark m))", 8)
        self.check_bad("(mark m)x", 8)
        self.check_bad("(mark m)(", 8)
        self.check_bad("true)", 4)
        self.check_bad("true(", 4)
        self.check_bad("x(mark m)", 1)

    def test_not_a_name(self):
        for word in WORDS[2:] + ("0", "0x", "1a", "X", "aB", "a-b", "a_b", "abcdefghijklm", "\n", "x\n", "\tx", "x\ty",
                                 "\u00e9", "x\u00e9", "\u0661", "x\u0661", "{a}", "a,b", "'x", "%", "\u00a0x", "Z"):
            self.check_bad(word, 0)
            self.check_bad(f"  {word} ", 2)
            self.check_bad(f"(some {word})", 6)
            self.check_bad(f"(and x {word})", 7)
        for word in WORDS + ("0", "9z", "M", "abcdefghijklm", "m\n", "a.b", "("):
            self.check_bad(f"(mark {word})", 6)
            self.check_bad(f"(least  {word} x)", 8)
            self.check_bad(f"(most {word} x)", 6)

    def test_missing(self):
        self.check_bad("()", 1)
        self.check_bad(")", 0)
        self.check_bad(" )", 1)
        self.check_bad("(value)", 6)
        self.check_bad("(value )", 7)
        self.check_bad("(mark)", 5)
        self.check_bad("(and)", 4)
        self.check_bad("(and true)", 9)
        self.check_bad("(or x )", 6)
        self.check_bad("(some)", 5)
        self.check_bad("(all )", 5)
        self.check_bad("(least)", 6)
        self.check_bad("(least x)", 8)
        self.check_bad("(most (mark m))", 6)
        self.check_bad("(x)", 1)
        self.check_bad("(and (or x) y)", 10)

    def test_too_many(self):
        self.check_bad("(true)", 1)
        self.check_bad("(false)", 1)
        self.check_bad("((true))", 1)
        self.check_bad("(name x)", 1)
        self.check_bad("(value 0 1)", 9)
        self.check_bad("(value (0))", 7)
        self.check_bad("(value 0(", 8)
        self.check_bad("(value ()", 7)
        self.check_bad("(mark m n)", 8)
        self.check_bad("(and x y z)", 9)
        self.check_bad("(or x y (mark m))", 8)
        self.check_bad("(some x y)", 8)
        self.check_bad("(all x (some x))", 7)
        self.check_bad("(least x y x)", 11)
        self.check_bad("(most x x x)", 10)

    def test_exchanged(self):
        self.check_bad("x (and y)", 2)
        self.check_bad("(x and y)", 1)
        self.check_bad("(least (some x) x)", 7)
        self.check_bad("(m mark)", 1)
        self.check_bad("(01 value)", 1)
        self.check_bad(")x(", 0)
        self.check_bad("and x y", 0)
        self.check_bad("(AND x y)", 1)
        self.check_bad("(And x y)", 1)
        self.check_bad("(not x)", 1)
        self.check_bad("(and\tx y)", 1)
        self.check_bad("(and x\ny)", 5)
        self.check_bad("(and x y)\n", 9)
        self.check_bad("\n(and x y)", 0)
        self.check_bad("(\nand x y)", 1)
        self.check_bad("(value\n01)", 1)

    def test_all_short_rows_of_tokens(self):
        for many in range(5):
            for row in product(("(", ")", "true", "x", "value", "mark", "and", "some", "least", "0"), repeat=many):
                self.check_as_told(" ".join(row))
        for many in (5, 6, 7):
            for row in product(("(", ")", "x", "some"), repeat=many):
                self.check_as_told("  ".join(row))

    def test_a_token_less_or_exchanged(self):
        for text, _ in WRITTEN:
            row = text.replace("(", "( ").replace(")", " )").split(" ")
            for at in range(len(row)):
                self.check_as_told(" ".join(row[:at] + row[at + 1:]))
                self.check_as_told(" ".join(row[:at] + [row[at]] + row[at:]))
                for word in ("(", ")", "x", "true", "and", "least", "mark", "value", "7"):
                    self.check_as_told(" ".join(row[:at] + [word] + row[at + 1:]))
                    self.check_as_told(" " + "  ".join(row[:at] + [word] + row[at:]))


class TestParentheses(Texts):
    def test_forty(self):
        text = "(some " * 40 + "x" + ")" * 40
        formula = read_formula(text)
        self.assertEqual((depth(formula), write_formula(formula)), (41, text))
        text = "(some " * 39 + "(mark m)" + ")" * 39
        self.assertEqual(depth(read_formula(text)), 40)
        text = "(and (mark m) " * 39 + "(or (x " + ")" * 41
        self.check_bad(text, 14 * 39 + 4)
        text = "(or (mark a) " * 20 + "(and (some x) " * 19 + "(value 1)" + ")" * 39
        self.assertEqual(depth(read_formula(text)), 41)

    def test_forty_one(self):
        self.check_bad("(some " * 41 + "x" + ")" * 41, 240)
        self.check_bad("(some " * 40 + "(mark m)" + ")" * 40, 240)
        self.check_bad("(some " * 40 + "   (", 243)
        self.check_bad("(and x " * 40 + "(mark m)" + ")" * 40, 280)
        self.check_bad("(least x " * 40 + "(value 1)" + ")" * 40, 360)
        for many in (42, 80, 400, 5000):
            self.check_bad("(all " * many + "x" + ")" * many, 200)

    def test_closed_parentheses_do_not_count(self):
        inner = "(some " * 39 + "x" + ")" * 39
        formula = read_formula(f"(and {inner} {inner})")
        self.assertEqual(depth(formula), 41)
        self.check_bad(f"(and {inner} (some {inner}))", 6 + len(inner) + 6 + 6 * 38)
        inner = "(some " * 40 + "x" + ")" * 40
        self.check_bad(f"(and x {inner})", 7 + 6 * 39)

    def test_parentheses_alone(self):
        self.check_bad("((", 1)
        self.check_bad("(" * 5000, 1)
        self.check_bad(")" * 5000, 0)

    def test_many_parts(self):
        row = "x"
        for _ in range(38):
            row = f"(and {row} (or (mark m) (some x)))"
        self.assertEqual(parts(read_formula(row)), 1 + 38 * 5)
        text = write_formula(wide(9))
        self.assertEqual(parts(read_formula(text)), 1023)
        self.assertEqual(write_formula(read_formula(text)), text)


class TestDeepFormulas(Texts):
    def test_written_though_not_read(self):
        for many in (41, 80, 100):
            formula = deep(many)
            self.assertEqual(depth(formula), many)
            text = write_formula(formula)
            self.assertEqual(text.count("("), text.count(")"))
        inner = ("name", "x")
        for _ in range(79):
            inner = ("some", inner)
        self.assertEqual(write_formula(inner), "(some " * 79 + "x" + ")" * 79)


if __name__ == "__main__":
    unittest.main()
