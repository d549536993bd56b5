"""Tallies of lengths: how many texts there are of each length.

There can be very many lengths. So the numbers for some lengths that come one behind another stand side by side, as the
digits of one great number: to add tallies, or to make all lengths greater, takes only a few steps with such numbers.
"""

DIGITS = 256


class Tally:
    """How many texts there are of each length; none of these numbers has more bits than so many."""

    def __init__(self, bits):
        self._bits = bits
        self._most = (1 << bits) - 1
        self._whole_bits = DIGITS * bits
        self._whole_most = (1 << self._whole_bits) - 1
        self._wholes = {}

    def start(self, number):
        """Count so many texts of the length 0."""
        self._add(0, number)

    def take(self, other, length, times):
        """Count what another tally has, with lengths that are so much greater, so many times."""
        skipped, digits = divmod(length, DIGITS)
        for at, number in list(other._wholes.items()):
            moved = (number * times) << (digits * self._bits)
            self._add(at + skipped, moved & self._whole_most)
            self._add(at + skipped + 1, moved >> self._whole_bits)

    def by_length(self):
        """Return the dict from lengths, ascending, to how many texts there are of each, unless there are none."""
        found = {}
        for at in sorted(self._wholes):
            rest = self._wholes[at]
            for digit in range(DIGITS):
                number = (rest >> (digit * self._bits)) & self._most
                if number > 0:
                    found[at * DIGITS + digit] = number
        return found

    def _add(self, at, number):
        if number > 0:
            self._wholes[at] = self._wholes.get(at, 0) + number
