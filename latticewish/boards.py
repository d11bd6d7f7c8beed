"""The values at all states as one integer, so that and, or, some and all are worked out at all states at once.

Each state has a bit for each of some irreducible values; it is set if the irreducible value lies within the value at
the state. In a regular lattice the bits of a join are | of the bits of both values, those of a meet are &, and the bits
for all irreducible values tell the value.
"""


class Board:
    """A system whose values are written as such integers."""

    def __init__(self, system, pieces):
        lattice = system.lattice
        self._lattice = lattice
        self._masks = [_mask_of(lattice, pieces, place) for place in range(lattice.size)]
        self._places = {mask: place for place, mask in enumerate(self._masks)}
        self._piece_bits = (1 << len(pieces)) - 1
        self._shifts = {state: at * len(pieces) for at, state in enumerate(system.states())}
        self._marks = {}
        # The arrows by how far they lead: the bits of has at their starts, and those that are not in lacks.
        self._having = {}
        self._not_lacking = {}
        self.full = (1 << len(pieces) * len(self._shifts)) - 1
        for mark, state, name in system.marks():
            self._marks[mark] = self._marks.get(mark, 0) | self._mask(name) << self._shifts[state]
        for start, end, has, lacks in system.arrows():
            at = self._shifts[start]
            far = self._shifts[end] - at
            self._having[far] = self._having.get(far, 0) | self._mask(has) << at
            left = self._mask(lacks) ^ self._piece_bits
            self._not_lacking[far] = self._not_lacking.get(far, 0) | left << at

    def _mask(self, name):
        return self._masks[self._lattice.at_name(name)]

    def value(self, name):
        """The value with the name at all states."""
        mask = self._mask(name)
        return sum([mask << shift for shift in self._shifts.values()])

    def mark(self, mark):
        """The values of the mark."""
        return self._marks.get(mark, 0)

    def some(self, bits):
        """The values of (some a), from those of a."""
        return _led_back(self._having, bits)

    def every(self, bits):
        """The values of (all a), from those of a: all but what leads along an arrow to where a has it not."""
        return self.full ^ _led_back(self._not_lacking, self.full ^ bits)

    def mask_at(self, bits, state):
        """The bits at the state alone."""
        return bits >> self._shifts[state] & self._piece_bits

    def place_at(self, bits, state):
        """The place of the value at the state; only for a board of all irreducible values."""
        return self._places[self.mask_at(bits, state)]


def _mask_of(lattice, pieces, place):
    """The bits of the irreducible values within the value at the place."""
    return sum([1 << number for number, piece in enumerate(pieces) if lattice.within_at(piece, place)])


def _led_back(arrows, bits):
    """What the bits are at the arrows' ends, at the arrows' starts, of the bits that the arrows let through."""
    led = 0
    for far, through in arrows.items():
        led |= (bits >> far if far >= 0 else bits << -far) & through
    return led
