"""The working out of a formula's values, all states at once."""

from latticewish.formulas import BINDERS

# So many answers of a least or most are kept, for other values of the names around it.
_MOST_KEPT = 100


class Working:
    """Works out the values of spots, as integers of the board."""

    def __init__(self, board):
        self._board = board
        # What is worked out once for all: the spots in which no name means a binder around them.
        self._closed = {}
        # For each least or most its answers so far, each beside the values of the names that it depends on.
        self._answers = {}
        # By the number of binders around a binder, the values that its name has at present.
        self._now = {}
        # In how many rounds of the least or most that was worked out last something changed.
        self.changes = 0

    def bits(self, spot):
        """The spot's values, while the names of the binders around it have the present values."""
        if spot.needs:
            return self._worked_out(spot)
        if spot not in self._closed:
            self._closed[spot] = self._worked_out(spot)
        return self._closed[spot]

    def context(self, spot):
        """The tuple of the present values on which the spot's values depend."""
        return tuple([self._now[level] for level in spot.needs])

    def rounds_of(self, spot):
        """The list of the values of each round of a least or most, while the names around it have the present ones."""
        found = []
        following = self._first_round(spot)
        while not found or following != found[-1]:
            found.append(following)
            self.set_name(spot, following)
            following = self.bits(spot.parts[0])
        return found

    def set_name(self, spot, bits):
        """Gives the name of a least or most present values, until it is worked out again."""
        self._now[spot.level] = bits

    def _worked_out(self, spot):
        word = spot.word
        if word == "name":
            return self._now[spot.level]
        if word == "and":
            return self.bits(spot.parts[0]) & self.bits(spot.parts[1])
        if word == "or":
            return self.bits(spot.parts[0]) | self.bits(spot.parts[1])
        if word == "some":
            return self._board.some(self.bits(spot.parts[0]))
        if word == "all":
            return self._board.every(self.bits(spot.parts[0]))
        if word in BINDERS:
            return self._fixed_point(spot)
        return self._end(spot)

    def _end(self, spot):
        if spot.word == "value":
            return self._board.value(spot.told)
        if spot.word == "mark":
            return self._board.mark(spot.told)
        return self._board.full if spot.word == "true" else 0

    def _fixed_point(self, spot):
        around = self.context(spot)
        bits = self._start(spot, around)
        changes = 0
        self.set_name(spot, bits)
        following = self.bits(spot.parts[0])
        while following != bits:
            changes += 1
            bits = following
            self.set_name(spot, bits)
            following = self.bits(spot.parts[0])
        self.changes = changes
        self._keep(spot, around, bits)
        return bits

    def _first_round(self, spot):
        return 0 if spot.word == "least" else self._board.full

    def _start(self, spot, around):
        """Where the rounds begin: at the bottom or top, or at earlier answers on the way from there.

        The answer of a least for values around it that lay within the present ones lies within the present answer,
        and its own round does not lead below it; so the rounds lead from it to the same fixed point. The same holds
        of a most, with the order turned.
        """
        least = spot.word == "least"
        bits = self._first_round(spot)
        for told, answer in self._answers.get(spot, []):
            if least and _within(told, around):
                bits |= answer
            elif not least and _within(around, told):
                bits &= answer
        return bits

    def _keep(self, spot, around, bits):
        answers = self._answers.setdefault(spot, [])
        answers.append((around, bits))
        if len(answers) > _MOST_KEPT:
            del answers[0]


def _within(lower, upper):
    """Whether each of the values lies within the one beside it."""
    return all([low & high == low for low, high in zip(lower, upper)])
