"""Two programs that read the same texts, and the spans of the rows of the marks of both (point 14 of the document)."""

from textboxes.bounds import Bound
from textboxes.marking import marks_of
from textboxes.relations import relations_of
from textboxes.sides import Side
from textboxes.spans import Span

MOST_FRACTIONS = 1000000


class Twins:
    """The pairs of the states of two programs behind texts, and the spans of the rows of those that were kept."""

    def __init__(self, one, two, primes):
        self._one = Side(one, primes)
        self._two = Side(two, primes)
        self._boxes = (one.boxes, two.boxes)
        self._many = len(marks_of(one.boxes)) + len(marks_of(two.boxes))
        self._primes = primes
        self._spans = {}
        self._bounds = {}
        self._asked = {}
        self._kept = {}
        self._effort = 0

    def first(self):
        """Return the states behind the empty text."""
        return self._one.first(), self._two.first()

    def after(self, states, letter):
        """Return the states behind one more letter."""
        return self._one.after(states[0], letter), self._two.after(states[1], letter)

    def keep(self, states):
        """Keep states, and tell whether they say more than those that were kept with the same pair of places.

        States say nothing where both programs have refused the text.
        """
        one, two = states
        if one is None and two is None:
            return False
        pair = (None if one is None else one[0], None if two is None else two[0])
        self._asked[pair] = self._asked.get(pair, 0) + 1
        is_new = pair not in self._kept if None in pair else self._widen(pair, one, two)
        if is_new:
            self._kept[pair] = self._kept.get(pair, 0) + 1
        return is_new

    def asked(self):
        """Return the dict from the pairs of places to how many states were asked about there."""
        return dict(self._asked)

    def ranks(self):
        """Return the dict from the pairs of places to how many states were kept there."""
        return dict(self._kept)

    def bits(self):
        """Return a number of bits that no determinant that what was told depends on exceeds."""
        return max([bound.bits() for bound in self._bounds.values()] + [1])

    def effort(self):
        """Return about how many products it took for each prime."""
        return self._effort + self._one.effort() + self._two.effort()

    def relations(self):
        """Return the dict from pairs of places to the relations of the marks there, or None if some are not found."""
        found = {}
        fractions = 0
        for pair, spans in self._spans.items():
            primes = [self._primes[at] for at, _ in spans]
            found[pair] = relations_of([span for _, span in spans], primes)
            if found[pair] is None:
                return None
            fractions += sum([len(others) for _, others in found[pair].values()])
            # To find a fraction takes steps as many as digits, and each of them goes through all digits.
            if fractions * len(primes) ** 2 > MOST_FRACTIONS:
                return None
        return found

    def _widen(self, pair, one, two):
        """Take the rows of two states into the spans of their pair, and tell whether these were widened."""
        if pair not in self._spans:
            self._spans[pair] = [(at, Span(self._many, prime)) for at, prime in enumerate(self._primes)]
            self._bounds[pair] = Bound(self._boxes[0], self._boxes[1])
        spans = self._spans[pair]
        self._effort += spans[0][1].effort()
        self._bounds[pair].ask(one[1], two[1])
        wider = []
        for at, span in spans:
            if span.take(one[2][at] + two[2][at]):
                wider.append((at, span))
        if not wider:
            return False
        # A prime can divide a determinant by chance. Then it says nothing more here: other rows could seem new to it
        # because they are new instead of this one.
        self._spans[pair] = wider
        self._bounds[pair].keep(one[1], two[1])
        return True
