"""The sums of rows of numbers, each times a number, modulo a prime."""

from textboxes.fields import inverse_of


class Span:
    """All sums of the rows that were taken in, each times a number, modulo a prime.

    It keeps as many rows as are needed. Each of them has the number `scale` in a column of its own, its pivot, where
    all others have 0; so only what stands in the columns that are no pivots is kept.
    """

    def __init__(self, many, prime):
        self._prime = prime
        self._columns = list(range(many))
        self._pivots = []
        self._rows = []
        self._scale = 1

    def take(self, row):
        """Take a row in, and tell whether it was no such sum before."""
        prime = self._prime
        heads = [row[at] for at in self._pivots]
        rest = self._without(row, heads)
        at = next_unlike_zero(rest)
        if at is None:
            return False
        head = rest[at]
        others = list(range(at)) + list(range(at + 1, len(rest)))
        self._rows = [[(one[k] * head - one[at] * rest[k]) % prime for k in others] for one in self._rows]
        self._rows.append([self._scale * rest[k] % prime for k in others])
        self._pivots.append(self._columns[at])
        self._columns = [self._columns[k] for k in others]
        self._scale = self._scale * head % prime
        return True

    def effort(self):
        """Return about how many products it needs to take in a row."""
        return (len(self._rows) + 1) * len(self._columns)

    def pivots(self):
        """Return the list of the columns that are pivots, each for the row that was taken in with it."""
        return list(self._pivots)

    def columns(self):
        """Return the list of the columns that are no pivots, ascending."""
        return list(self._columns)

    def residues(self):
        """Return what the kept rows have in the columns that are no pivots, if they have 1 in their pivots."""
        inverse = inverse_of(self._scale, self._prime)
        return [[number * inverse % self._prime for number in row] for row in self._rows]

    def _without(self, row, heads):
        """Return what stands in the columns that are no pivots, once the pivots of a row are made 0."""
        found = []
        for at, column in enumerate(self._columns):
            taken = sum([head * one[at] for head, one in zip(heads, self._rows)])
            found.append((self._scale * row[column] - taken) % self._prime)
        return found


def next_unlike_zero(numbers):
    """Return the index of the first number that is not 0, or None."""
    for at, number in enumerate(numbers):
        if number != 0:
            return at
    return None
