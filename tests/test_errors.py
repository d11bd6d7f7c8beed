"""Point 1 and the interface of errors.py."""

import unittest

from latticewish import errors

PLAIN = ("BadLattice", "MixedLattices", "BadMap")
NAMED = ("BadName", "TwiceTold", "NotIrreducible", "InUse")
MISSING = ("UnknownValue", "UnknownState", "UnboundName", "UnknownFormula")
BAD = PLAIN + NAMED + ("BadText",)


def named(word):
    return getattr(errors, word)


class TestOrderOfErrors(unittest.TestCase):
    def test_the_two_bases(self):
        self.assertTrue(issubclass(errors.LatticeError, ValueError))
        self.assertFalse(issubclass(errors.LatticeError, LookupError))
        self.assertTrue(issubclass(errors.NameMissing, LookupError))
        self.assertFalse(issubclass(errors.NameMissing, ValueError))

    def test_each_stands_under_its_base(self):
        for word in BAD:
            self.assertTrue(issubclass(named(word), errors.LatticeError), word)
            self.assertFalse(issubclass(named(word), LookupError), word)
        for word in MISSING:
            self.assertTrue(issubclass(named(word), errors.NameMissing), word)
            self.assertFalse(issubclass(named(word), ValueError), word)

    def test_none_stands_under_another(self):
        for first in BAD + MISSING:
            for second in BAD + MISSING:
                if first != second:
                    self.assertFalse(issubclass(named(first), named(second)), (first, second))

    def test_no_missing_key_or_index(self):
        for word in MISSING:
            self.assertFalse(issubclass(named(word), (KeyError, IndexError)), word)


class TestArguments(unittest.TestCase):
    def test_errors_without_arguments(self):
        for word in PLAIN:
            with self.assertRaises(named(word)) as caught:
                raise named(word)()
            self.assertIsInstance(str(caught.exception), str)

    def test_name(self):
        for word in NAMED + MISSING:
            for name in ("p", "", "with blank", "{a,b}", 0, 17, -3):
                with self.assertRaises(named(word)) as caught:
                    raise named(word)(name)
                self.assertEqual(caught.exception.name, name)
                self.assertIs(type(caught.exception.name), type(name))
                self.assertIsInstance(str(caught.exception), str)

    def test_name_by_keyword(self):
        for word in NAMED + MISSING:
            self.assertEqual(named(word)(name="q").name, "q")

    def test_at(self):
        for at in (0, 5, 400, "x"):
            with self.assertRaises(errors.BadText) as caught:
                raise errors.BadText(at)
            self.assertEqual(caught.exception.at, at)
            self.assertIsInstance(str(caught.exception), str)
        self.assertEqual(errors.BadText(at=3).at, 3)

    def test_missing_and_extra_arguments(self):
        for word in NAMED + MISSING + ("BadText",):
            with self.assertRaises(TypeError):
                named(word)()
        for word in PLAIN:
            with self.assertRaises(TypeError):
                named(word)("p")


if __name__ == "__main__":
    unittest.main()
