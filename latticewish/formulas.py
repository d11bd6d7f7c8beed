"""Formulas as nested tuples: names, parts, and what is worked out from a formula alone."""

from latticewish.orders import is_told_rightly

BINDERS = ("least", "most")
# The words whose formulas have no parts.
ENDS = ("true", "false", "value", "mark", "name")
# "name" is none of them: it is a name like others.
_WORDS = ("true", "false", "value", "mark", "and", "or", "some", "all", "least", "most")
_FIGURES = "0123456789"
_TRUE = ("true",)
_FALSE = ("false",)
_DUALS = {
    "true": "false", "false": "true", "and": "or", "or": "and", "some": "all", "all": "some", "least": "most",
    "most": "least"}
# The part beside which only the other one counts, and the part beside which the other one does not count.
_LEAVING = {"and": ("true",), "or": ("false",)}
_SWALLOWING = {"and": ("false",), "or": ("true",)}


def is_name(name):
    """Whether a string may name a mark, a state, a formula, or what a binder binds."""
    return is_told_rightly(name) and name[0] not in _FIGURES and name not in _WORDS


def parts_of(formula):
    """The tuple of the formulas directly inside the formula."""
    if formula[0] in ENDS:
        return ()
    return formula[2:] if formula[0] in BINDERS else formula[1:]


def with_parts(formula, parts):
    """The formula with as many other parts in the places of its own ones."""
    return formula[:len(formula) - len(parts)] + tuple(parts)


def free_names(formula):
    """The ascending list of the names that no binder around them binds."""
    return sorted(set(_unbound(formula, ())))


def _unbound(formula, bound):
    """A row of the free names but for those that are bound around the formula, each as often as it occurs."""
    if formula[0] == "name":
        return [] if formula[1] in bound else [formula[1]]
    if formula[0] in BINDERS:
        bound = bound + (formula[1],)
    found = []
    for part in parts_of(formula):
        found.extend(_unbound(part, bound))
    return found


def dual(formula):
    """The formula with true and false, and and or, some and all, least and most exchanged everywhere."""
    parts = []
    for part in parts_of(formula):
        parts.append(dual(part))
    word = formula[0]
    return (_DUALS.get(word, word),) + with_parts(formula, parts)[1:]


def unfolded(formula):
    """The part of a closed least or most, with the whole in the places of its name; others unchanged."""
    if formula[0] not in BINDERS:
        return formula
    return replaced(formula[2], {formula[1]: formula})


def replaced(formula, closed):
    """The formula with closed formulas, told by their names, in the places of these names that are not bound."""
    if formula[0] == "name":
        return closed.get(formula[1], formula)
    if formula[0] in BINDERS:
        closed = {name: closed[name] for name in closed if name != formula[1]}
    parts = []
    for part in parts_of(formula):
        parts.append(replaced(part, closed))
    return with_parts(formula, parts)


def simpler(formula):
    """The formula without what point 11 leaves out, from the inside outwards."""
    parts = []
    for part in parts_of(formula):
        parts.append(simpler(part))
    # What takes the formula's place is a part, true or false: nothing is to be replaced in it any more.
    return _without_outermost(with_parts(formula, parts))


def _without_outermost(formula):
    word = formula[0]
    if word in _LEAVING:
        return _of_two_parts(formula)
    if word in BINDERS:
        return _of_binder(formula)
    if formula == ("some", _FALSE):
        return _FALSE
    if formula == ("all", _TRUE):
        return _TRUE
    return formula


def _of_two_parts(formula):
    word, first, second = formula
    if first == _SWALLOWING[word] or second == _SWALLOWING[word]:
        return _SWALLOWING[word]
    if first == _LEAVING[word]:
        return second
    if second == _LEAVING[word] or first == second:
        return first
    return formula


def _of_binder(formula):
    word, name, part = formula
    if part == ("name", name):
        return _FALSE if word == "least" else _TRUE
    return formula if name in free_names(part) else part
