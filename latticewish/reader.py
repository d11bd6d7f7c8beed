"""Formulas read from their texts."""

from latticewish.errors import BadText
from latticewish.formulas import BINDERS, is_name
from latticewish.tokens import tokens_of

_MOST_OPENED = 40
# Stands behind the last token. It is allowed nowhere, so a text that ends too early fails at its length.
_END = ""


def read_formula(text):
    """The formula that the text writes; BadText at the first token that is not allowed at its place."""
    reading = Reading(text)
    formula = reading.take_formula(0)
    reading.take(_END)
    return formula


class Reading:
    """The tokens of a text, and how many of them are taken."""

    def __init__(self, text):
        self._tokens = tokens_of(text) + [(_END, len(text))]
        self._taken = 0

    def take(self, wanted):
        """Takes the next token, which has to be the wanted one."""
        word, at = self._take_any()
        if word != wanted:
            raise BadText(at)

    def take_formula(self, opened):
        """Takes a formula that stands inside of so many parentheses."""
        word, at = self._take_any()
        if word in ("true", "false"):
            return (word,)
        if is_name(word):
            return "name", word
        if word != "(" or opened == _MOST_OPENED:
            raise BadText(at)
        formula = self._take_inside(opened + 1)
        self.take(")")
        return formula

    def _take_inside(self, opened):
        word, at = self._take_any()
        if word == "value":
            return word, self._take_value()
        if word == "mark":
            return word, self._take_name()
        if word in ("some", "all"):
            return word, self.take_formula(opened)
        if word in ("and", "or"):
            first = self.take_formula(opened)
            return word, first, self.take_formula(opened)
        if word in BINDERS:
            name = self._take_name()
            return word, name, self.take_formula(opened)
        raise BadText(at)

    def _take_name(self):
        word, at = self._take_any()
        if not is_name(word):
            raise BadText(at)
        return word

    def _take_value(self):
        word, at = self._take_any()
        if word in ("(", ")", _END):
            raise BadText(at)
        return word

    def _take_any(self):
        token = self._tokens[self._taken]
        self._taken += 1
        return token
