"""Formulas without value, least, most and name that tell states apart, for one irreducible value.

A formula holds at a state, in this file, if the irreducible value lies within its value there.
"""

from latticewish.slices import Slice


class Told:
    """A formula, the number of its parts, and the states at which it holds."""

    def __init__(self, formula, size, where):
        self.body = formula
        self.size = size
        self.where = list(where)


class Differences:
    """A formula that holds at the first and not at the second state, for each pair of states that has one."""

    def __init__(self, system, piece):
        self._slice = Slice(system, piece)
        self._states = system.states()
        self._marks = [self._of_mark(mark) for mark in _marks_of(system)]
        self._found = {}
        new = self._next_round()
        while new:
            for pair in new:
                self._found[pair] = new[pair]
            new = self._next_round()

    def has(self, first, second):
        """Whether a formula holds at first and not at second."""
        return (first, second) in self._found

    def formula(self, first, second):
        """The formula that holds at first and not at second."""
        return self._found[first, second].body

    def _next_round(self):
        """Formulas for the pairs that have none so far, made of those of the other pairs."""
        new = {}
        for first in self._states:
            for second in self._states:
                if not self.has(first, second):
                    marks = [told for told in self._marks if first in told.where and second not in told.where]
                    rows = marks + self._by_some(first, second) + self._by_all(first, second)
                    if rows:
                        new[first, second] = _smallest(rows)
        return new

    def _of_mark(self, mark):
        return Told(("mark", mark), 1, [state for state in self._states if self._slice.has_mark(mark, state)])

    def _by_some(self, first, second):
        """For each arrow of first a formula that says where it leads, if no arrow of second leads there."""
        found = []
        others = self._slice.ends("some", second)
        for end in self._slice.ends("some", first):
            if all([self.has(end, other) for other in others]):
                rows = _chosen([self._found[end, other] for other in others], others, False)
                found.append(self._led("some", self._joined("and", rows)))
        return found

    def _by_all(self, first, second):
        """For each arrow of second a formula that fails where it leads, if no arrow of first leads there."""
        found = []
        others = self._slice.ends("all", first)
        for end in self._slice.ends("all", second):
            if all([self.has(other, end) for other in others]):
                rows = _chosen([self._found[other, end] for other in others], others, True)
                found.append(self._led("all", self._joined("or", rows)))
        return found

    def _joined(self, word, rows):
        """The formulas joined by and or or; true or false if there are none."""
        if not rows:
            return Told(("true",), 1, self._states) if word == "and" else Told(("false",), 1, [])
        joined = rows[0]
        for told in rows[1:]:
            where = [state for state in self._states if _holds_joined(word, joined, told, state)]
            joined = Told((word, joined.body, told.body), joined.size + told.size + 1, where)
        return joined

    def _led(self, word, inner):
        where = []
        for state in self._states:
            held = [end in inner.where for end in self._slice.ends(word, state)]
            if (word == "some" and any(held)) or (word == "all" and all(held)):
                where.append(state)
        return Told((word, inner.body), inner.size + 1, where)


def _marks_of(system):
    """The marks that are told somewhere, each once."""
    marks = {mark: True for mark, _, _ in system.marks()}
    return list(marks)


def _smallest(rows):
    smallest = rows[0]
    for told in rows:
        if told.size < smallest.size:
            smallest = told
    return smallest


def _holds_joined(word, first, second, state):
    if word == "and":
        return state in first.where and state in second.where
    return state in first.where or state in second.where


def _chosen(rows, others, wanted):
    """A few of the formulas, so that at each of the others one of them holds, or one of them fails, as wanted."""
    chosen = []
    left = list(others)
    while left:
        best = rows[0]
        for told in rows:
            more = len(_settled(told, left, wanted)) - len(_settled(best, left, wanted))
            if more > 0 or (more == 0 and told.size < best.size):
                best = told
        chosen.append(best)
        settled = _settled(best, left, wanted)
        left = [state for state in left if state not in settled]
    return chosen


def _settled(told, states, wanted):
    return [state for state in states if (state in told.where) == wanted]
