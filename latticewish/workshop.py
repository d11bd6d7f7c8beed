"""A workshop: states, marks, arrows and formulas that are told one by one, and can be told anew or taken away."""

from latticewish.checks import check_formula
from latticewish.errors import BadName, InUse, TwiceTold, UnknownFormula, UnknownState
from latticewish.evaluation import value_at
from latticewish.formulas import free_names, is_name, replaced
from latticewish.reader import read_formula
from latticewish.systems import System
from latticewish.truths import Value


class Workshop:
    """Keeps states, marks, arrows and formulas over one lattice."""

    def __init__(self, lattice):
        self.lattice = lattice
        # All of these keep the order in which their keys were told first.
        self._states = {}
        self._marks = {}
        self._arrows = {}
        self._texts = {}
        self._formulas = {}
        self._wishes = {}

    def state(self, name):
        """Adds a state; BadName, TwiceTold."""
        if not is_name(name):
            raise BadName(name)
        if name in self._states:
            raise TwiceTold(name)
        self._states[name] = True

    def mark(self, mark, state, value):
        """Tells a mark's value at a state, anew in its place if it was told; BadName, UnknownState, UnknownValue."""
        if not is_name(mark):
            raise BadName(mark)
        self._check_state(state)
        self.lattice.at_name(value)
        self._marks[mark, state] = value

    def arrow(self, start, end, has, lacks):
        """Tells an arrow, anew in its place if it was told; UnknownState, UnknownValue."""
        self._check_state(start)
        self._check_state(end)
        self.lattice.at_name(has)
        self.lattice.at_name(lacks)
        self._arrows[start, end] = (has, lacks)

    def remove(self, name):
        """Removes a state with its marks and arrows; UnknownState."""
        self._check_state(name)
        del self._states[name]
        self._marks = {key: self._marks[key] for key in self._marks if key[1] != name}
        self._arrows = {key: self._arrows[key] for key in self._arrows if name not in key}

    def __setitem__(self, name, text):
        """Tells a formula, anew in its place if it was told; BadName, BadText, UnknownValue, UnboundName."""
        if not is_name(name):
            raise BadName(name)
        formula = read_formula(text)
        check_formula(self.lattice, formula, self._earlier(name))
        self._texts[name] = text
        self._formulas[name] = formula

    def __getitem__(self, name):
        """The text of the formula, as it was told; UnknownFormula."""
        if name not in self._texts:
            raise UnknownFormula(name)
        return self._texts[name]

    def __contains__(self, name):
        """Whether a formula has the name."""
        return name in self._texts

    def __iter__(self):
        raise TypeError("ask a workshop for its names")

    def __len__(self):
        """How many formulas there are."""
        return len(self._texts)

    def names(self):
        """The list of the names of the formulas, in their row's order."""
        return list(self._texts)

    def formula(self, name):
        """The closed formula: those of the mentioned formulas are put in the places of their names; UnknownFormula."""
        self._check_formula(name)
        return self._closed_formulas()[name]

    def drop(self, name):
        """Drops a formula and its wish; UnknownFormula, InUse if another formula mentions it."""
        self._check_formula(name)
        if any([name in free_names(self._formulas[known]) for known in self._formulas]):
            raise InUse(name)
        del self._texts[name]
        del self._formulas[name]
        self._wishes.pop(name, None)

    def system(self):
        """The System as it is."""
        marks = [(mark, state, self._marks[mark, state]) for mark, state in self._marks]
        arrows = [(start, end, has, lacks) for (start, end), (has, lacks) in self._arrows.items()]
        return System(self.lattice, list(self._states), marks, arrows)

    def value(self, name, state):
        """The Value of the formula at the state; UnknownFormula, UnknownState."""
        formula = self.formula(name)
        return value_at(self.system(), formula, state)

    def wish(self, name, value):
        """Tells what is to lie within the formula's value, None for nothing; UnknownFormula, UnknownValue."""
        self._check_formula(name)
        if value is None:
            self._wishes.pop(name, None)
        else:
            self.lattice.at_name(value)
            self._wishes[name] = value

    def broken(self, state):
        """The list of the names of the formulas whose values at the state do not have their wishes; UnknownState."""
        self._check_state(state)
        system = self.system()
        closed = self._closed_formulas()
        names = []
        for name in self._formulas:
            if name in self._wishes:
                wished = Value.named(self.lattice, self._wishes[name])
                if not wished <= value_at(system, closed[name], state):
                    names.append(name)
        return names

    def attempt(self, action):
        """Calls action with the workshop. If an error leaves it, the workshop is afterwards as it was before."""
        states = _copied(self._states)
        marks = _copied(self._marks)
        arrows = _copied(self._arrows)
        texts = _copied(self._texts)
        formulas = _copied(self._formulas)
        wishes = _copied(self._wishes)
        done = None
        try:
            answer = action(self)
            done = True
        finally:
            if done is None:
                self._states = states
                self._marks = marks
                self._arrows = arrows
                self._texts = texts
                self._formulas = formulas
                self._wishes = wishes
        return answer

    def _closed_formulas(self):
        """The closed formulas, by their names."""
        closed = {}
        # Each formula stands behind those that it mentions.
        for name in self._formulas:
            closed[name] = replaced(self._formulas[name], closed)
        return closed

    def _earlier(self, name):
        """The tuple of the names of the formulas that stand, or would stand, before this one."""
        row = self.names()
        return tuple(row[:row.index(name)] if name in row else row)

    def _check_state(self, name):
        if name not in self._states:
            raise UnknownState(name)

    def _check_formula(self, name):
        if name not in self._formulas:
            raise UnknownFormula(name)


def _copied(table):
    return {key: table[key] for key in table}
