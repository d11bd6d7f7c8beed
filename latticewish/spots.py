"""The places in a formula, each with the formula there and the binders around it."""

from latticewish.formulas import BINDERS, parts_of

_WITH_NAME = ("value", "mark", "name", "least", "most")


class Spot:
    """One place in a formula all of whose names are bound."""

    def __init__(self, formula, place, around):
        self.word = formula[0]
        # The name that follows the word, if one does.
        self.told = formula[1] if self.word in _WITH_NAME else None
        self.place = place
        # The spots of the binders around this one, the outermost first.
        self.around = list(around)
        # How many binders stand around this spot; for a name, around the binder that it means.
        self.level = _level_of(self.told, around) if self.word == "name" else len(around)
        inside = self.around + [self] if self.word in BINDERS else self.around
        self.parts = []
        for number, part in enumerate(parts_of(formula)):
            self.parts.append(Spot(part, place + (number,), inside))
        # The levels of the binders around this spot that are meant by names in it.
        self.needs = _needs_of(self)


def _level_of(name, around):
    """How many binders stand around the binder that the name means."""
    return [level for level in range(len(around)) if around[level].told == name][-1]


def _needs_of(spot):
    """The levels in ascending order."""
    if spot.word == "name":
        return [spot.level]
    found = [level for part in spot.parts for level in part.needs]
    return [level for level in range(len(spot.around)) if level in found]


def spots_of(formula):
    """The list of the formula's spots, ascending by their places; all names have to be bound."""
    return _with_inner(Spot(formula, (), []))


def _with_inner(spot):
    row = [spot]
    for part in spot.parts:
        row.extend(_with_inner(part))
    return row
