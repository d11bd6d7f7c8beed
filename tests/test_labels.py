"""Point 7, last sentences: read_lattice."""

import unittest

from latticewish.combined import PairLattice, TurnedLattice
from latticewish.errors import BadLattice
from latticewish.families import ChainLattice, DownLattice, SetLattice
from latticewish.labels import read_lattice
from latticewish.lattices import OrderLattice
from tests.definitions import names
from tests.samples import corner, diamond, irregular_samples, orders_of_three, regular_samples


class Labels(unittest.TestCase):
    def check_same(self, read, lattice):
        """Everything that point 7 tells is the same, and so are the lattices inside."""
        self.assertIs(type(read), type(lattice))
        self.assertEqual((read.label, read.size), (lattice.label, lattice.size))
        self.assertEqual((read.bottom_at, read.top_at), (lattice.bottom_at, lattice.top_at))
        self.assertEqual(names(read), names(lattice))
        self.assertEqual(read.irreducibles(), lattice.irreducibles())
        for first in range(lattice.size):
            for second in range(lattice.size):
                self.assertIs(read.within_at(first, second), lattice.within_at(first, second))
                self.assertEqual(read.join_at(first, second), lattice.join_at(first, second))
                self.assertEqual(read.meet_at(first, second), lattice.meet_at(first, second))
        for attribute in ("left", "right", "inner"):
            if hasattr(lattice, attribute):
                self.check_same(getattr(read, attribute), getattr(lattice, attribute))

    def check_read(self, lattice):
        self.check_same(read_lattice(lattice.label), lattice)

    def check_bad(self, text):
        with self.assertRaises(BadLattice) as caught:
            read_lattice(text)
        self.assertIs(type(caught.exception), BadLattice, text)

    def check_bad_or_itself(self, text):
        try:
            read = read_lattice(text)
        except BadLattice:
            return
        self.assertEqual(read.label, text)


class TestRightLabels(Labels):
    def test_each_class(self):
        for lattice in regular_samples() + irregular_samples():
            self.check_read(lattice)

    def test_written_out(self):
        self.check_same(read_lattice("(chain 3)"), ChainLattice(3))
        self.check_same(read_lattice("(sets 2)"), SetLattice(2))
        self.check_same(read_lattice("(order (a) ())"), OrderLattice(["a"], []))
        self.check_same(read_lattice("(order (b a) (a b a a))"), OrderLattice(["b", "a"], [("a", "b"), ("a", "a")]))
        self.check_same(read_lattice("(downs (x y) (y x))"), DownLattice(["x", "y"], [("y", "x")]))
        self.check_same(read_lattice("(downs (x) ())"), DownLattice(["x"], []))
        self.check_same(read_lattice("(pair (chain 3) (sets 2))"), PairLattice(ChainLattice(3), SetLattice(2)))
        self.check_same(read_lattice("(turned (chain 3))"), TurnedLattice(ChainLattice(3)))

    def test_all_counts(self):
        for count in range(1, 65):
            self.assertEqual(read_lattice(f"(chain {count})").size, count)
        for count in range(1, 7):
            self.assertEqual(read_lattice(f"(sets {count})").size, 2 ** count)

    def test_every_order_of_three(self):
        for lattice in orders_of_three():
            self.check_read(lattice)

    def test_pairs_that_change_nothing_stay(self):
        label = "(order (b a) (a b a b b b))"
        self.assertEqual(read_lattice(label).label, label)

    def test_words_as_names(self):
        told = ["order", "chain", "sets", "downs", "pair", "turned", "0", "64", "000000000000", "abcdefghijkl"]
        self.check_read(OrderLattice(told, [("turned", "pair"), ("0", "chain")]))
        self.check_read(DownLattice(["pair", "chain", "3"], [("3", "pair")]))

    def test_most_names(self):
        self.check_read(OrderLattice([f"n{k}" for k in range(16)], [("n15", "n0")] * 40))
        self.assertEqual(read_lattice("(downs (a b c d e f) ())").size, 64)

    def test_three_deep(self):
        for first in (diamond(), corner(), SetLattice(2), ChainLattice(3), OrderLattice(["a", "b"], [])):
            for second in (ChainLattice(2), DownLattice(["a"], [])):
                self.check_read(TurnedLattice(PairLattice(first, second)))
                self.check_read(PairLattice(PairLattice(first, second), second))
                self.check_read(PairLattice(second, TurnedLattice(first)))
                self.check_read(PairLattice(TurnedLattice(second), PairLattice(second, first)))
                self.check_read(TurnedLattice(TurnedLattice(first)))


class TestOtherSigns(Labels):
    def labels(self):
        return [lattice.label for lattice in regular_samples() + irregular_samples()]

    def test_one_sign_more(self):
        for label in self.labels():
            for at in range(len(label) + 1):
                for sign in ("(", ")", "\n", "\t", "\u00a0", "A", "-", "{", "/"):
                    self.check_bad(label[:at] + sign + label[at:])
                # A blank, a figure or a small letter may make another label.
                for sign in " 1a":
                    self.check_bad_or_itself(label[:at] + sign + label[at:])

    def test_one_sign_less(self):
        for label in self.labels():
            for at in range(len(label)):
                shorter = label[:at] + label[at + 1:]
                self.check_bad(shorter) if label[at] in "()" else self.check_bad_or_itself(shorter)

    def test_another_sign(self):
        for label in self.labels():
            for at in range(len(label)):
                for sign in " ()0a9-":
                    self.check_bad_or_itself(label[:at] + sign + label[at + 1:])

    def test_blanks(self):
        for text in (" (chain 2)", "(chain 2) ", "( chain 2)", "(chain  2)", "(chain 2 )", "(chain\t2)", "(chain 2)\n",
                     "(chain2)", "(order (a b)(a b))", "(order(a b) (a b))", "(order (a  b) (a b))",
                     "(order ( a b) ())",
                     "(order (a b) ( ))", "(order (a b ) ())", "(pair (chain 1)(chain 1))", "(turned(chain 1))",
                     "(pair (chain 1)  (chain 1))", "(order (a b) (a  b))", "(sets\n2)"):
            self.check_bad(text)

    def test_parentheses(self):
        for text in ("chain 2", "(chain 2", "chain 2)", "((chain 2))", "(chain (2))", "(chain 2))", "((chain) 2)", "()",
                     "(", ")", ")(", "(())", "(order a b ())", "(order (a b))", "(order (a b) a b)", "(order a ())",
                     "(order ((a) b) ())", "(order (a b) ((a b)))", "(order (a b) () ())", "(downs ((a)) ())",
                     "(turned chain 2)", "(turned (chain 2)", "(pair chain 1 chain 1)", "(pair (chain 1 chain 1))",
                     "(turned ((chain 2)))", "(order () ((a a)))", "((order) (a) ())"):
            self.check_bad(text)

    def test_capital_letters(self):
        for text in ("(Chain 2)", "(CHAIN 2)", "(Sets 2)", "(Order (a) ())", "(order (A) ())", "(order (a b) (a B))",
                     "(downs (A) ())", "(Pair (chain 1) (chain 1))", "(pair (chain 1) (Chain 1))",
                     "(turneD (chain 1))"):
            self.check_bad(text)

    def test_cut_off_and_doubled(self):
        for label in self.labels():
            for at in range(len(label)):
                self.check_bad(label[:at])
                if at > 0:
                    self.check_bad(label[at:]) if label[at] != "(" else self.check_bad_or_itself(label[at:])
            for between in ("", " "):
                self.check_bad(label + between + label)

    def test_other_words(self):
        for text in ("", " ", "chain", "2", "a", "(a)", "(chain)", "(sets)", "(order)", "(downs)", "(pair)", "(turned)",
                     "(chain 1 1)", "(sets 1 1)", "(chains 2)", "(set 2)", "(down (a) ())", "(orders (a) ())", "ab",
                     "abc",
                     "(turned 2)", "(turned chain)", "(pair 1 2)", "(pair (chain 1))", "(turn (chain 1))",
                     "(pair (chain 1) (chain 1) (chain 1))", "(turned (chain 1) (chain 1))", "(chain a)", "(chain ())",
                     "(order 1)", "(order (a))", "(sets (a) ())", "(downs 3)", "(chain (a) ())", "(lattice 2)",
                     "(turned ab)", "(turned abc)", "(pair ab abc)", "nobody (chain 1)", "(chain 1) nobody"):
            self.check_bad(text)


class TestNumbers(Labels):
    def test_out_of_range(self):
        for count in (0, 65, 66, 99, 100, 641, 1000, 10 ** 20, 10 ** 800):
            self.check_bad(f"(chain {count})")
        for count in (0, 7, 8, 10, 64):
            self.check_bad(f"(sets {count})")
        self.check_bad("(chain " + "1" * 5000 + ")")
        self.check_bad("(sets " + "0" * 5000 + "1)")

    def test_written_otherwise(self):
        for word in ("+2", "-2", "-0", "02", "002", "2.0", "2.", "2_", "1_0", "0x2", "1e1", "two", "\u0662", "\u00b2",
                     "\u0661\u0662", "\uff12", "2,", "--2", "2-", "\u2460", "True", "None"):
            self.check_bad(f"(chain {word})")
            self.check_bad(f"(sets {word})")
            self.check_bad(f"(turned (pair (chain 1) (sets {word})))")

    def test_too_many_values(self):
        self.assertEqual(read_lattice("(pair (chain 32) (chain 2))").size, 64)
        self.check_bad("(pair (chain 33) (chain 2))")
        self.check_bad("(pair (sets 6) (sets 1))")
        self.check_bad("(turned (pair (chain 13) (chain 5)))")


class TestNamesAndPairs(Labels):
    def test_odd_number_of_words(self):
        for word in ("order", "downs"):
            for pairs in ("a", "a b a", "a b b a b"):
                self.check_bad(f"({word} (a b) ({pairs}))")

    def test_a_name_that_is_not_there(self):
        for word in ("order", "downs"):
            for pairs in ("a c", "c a", "c c", "a b b d", "ab ba"):
                self.check_bad(f"({word} (a b) ({pairs}))")

    def test_names_that_are_not_as_told(self):
        for word in ("order", "downs"):
            for told in ("", "a a", "a b a", "abcdefghijklm", "a-b", "a,b", "{a}", "\u00e9", "a_", "a\tb", "a\nb"):
                self.check_bad(f"({word} ({told}) ())")
        self.check_bad("(order (" + " ".join(f"n{k}" for k in range(17)) + ") ())")
        self.check_bad("(downs (a b c d e f g) ())")
        self.check_bad("(downs (a b) (a b b a))")


class TestDepth(Labels):
    def turned(self, times, inner="(chain 2)"):
        return "(turned " * times + inner + ")" * times

    def test_ten_lattices(self):
        for inner in ("(chain 2)", "(sets 1)", "(order (a b) (a b))", "(downs (a) ())"):
            self.assertEqual(read_lattice(self.turned(9, inner)).label, self.turned(9, inner))
        right = "(pair (chain 1) " * 9 + "(order (a b) ())" + ")" * 9
        self.assertEqual(read_lattice(right).label, right)
        left = "(pair " * 9 + "(downs (a) ())" + " (chain 1))" * 9
        self.assertEqual(read_lattice(left).label, left)

    def test_eleven_and_more(self):
        for inner in ("(chain 2)", "(order (a b) (a b))", "()", "a", "(pair (chain 1) (chain 1))"):
            for times in (10, 11, 12, 20, 400, 5000):
                self.check_bad(self.turned(times, inner))
        for times in (10, 11, 400, 5000):
            self.check_bad("(pair (chain 1) " * times + "(chain 2)" + ")" * times)
            self.check_bad("(pair " * times + "(chain 2)" + " (chain 1))" * times)

    def test_ten_and_four_hundred_turned(self):
        self.assertEqual(read_lattice(self.turned(9)).depth, 10)
        self.check_bad(self.turned(10))
        self.check_bad(self.turned(11))
        self.check_bad(self.turned(400))

    def test_parentheses_alone(self):
        for many in (1, 10, 11, 12, 13, 400, 20000):
            self.check_bad("(" * many)
            self.check_bad(")" * many)
            self.check_bad("(" * many + ")" * many)
            self.check_bad("(turned " * many)

    def test_many_lattices_beside_one_another(self):
        lattice = ChainLattice(1)
        for _ in range(9):
            lattice = PairLattice(lattice, lattice)
        self.assertEqual(read_lattice(lattice.label).label, lattice.label)
        self.check_bad(f"(pair {lattice.label} {lattice.label})")


if __name__ == "__main__":
    unittest.main()
