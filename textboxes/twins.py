"""Two programs that read the same text, and the rows of the marks of both, modulo primes (points 13 and 14)."""

from textboxes.bounds import Bound
from textboxes.marking import marks_of, terms_of
from textboxes.signs import parts_of
from textboxes.spans import Span


class Twins:
    """The states of two programs behind the same texts, as far as they matter, and the spans of those that were kept.

    Such a state is a tuple of the pair of places, of which one is None if its program has refused the text before; of
    the lists of the lengths of the boxes of both; and of the rows of the marks of both programs, one for each prime.
    Behind a text that one program has refused, there are no rows.
    """

    def __init__(self, one, two, primes):
        self._one = one
        self._two = two
        self._primes = primes
        self._moves = {}
        self._spans = {}
        self._bounds = {}
        self._kept = {}
        self._effort = 0

    def first(self):
        """Return the state behind the empty text."""
        marks = marks_of(self._one.boxes) + marks_of(self._two.boxes)
        row = [1 if box == "" else 0 for _, box in marks]
        lengths = ([0 for _ in self._one.boxes], [0 for _ in self._two.boxes])
        return (self._one.places[0], self._two.places[0]), lengths, [list(row) for _ in self._primes]

    def after(self, state, letter):
        """Return the state behind one more letter, or None if both programs have refused the text then."""
        pair, lengths, rows = state
        key = (pair, letter)
        if key not in self._moves:
            self._moves[key] = self._move(pair, letter)
        if self._moves[key] is None:
            return None
        target, growths, maps = self._moves[key]
        found = []
        for prime, row, terms in zip(self._primes, rows, maps):
            found.append([sum([by * row[at] for by, at in line]) % prime for line in terms])
        self._effort += sum([len(line) for line in maps[0]]) if maps else 0
        return target, (_grown(lengths[0], growths[0]), _grown(lengths[1], growths[1])), found

    def keep(self, state):
        """Keep a state, and tell whether it says more than those that were kept with the same pair of places."""
        pair, lengths, rows = state
        if None in pair:
            is_new = pair not in self._kept
        else:
            is_new = self._widen(pair, lengths, rows)
        if is_new:
            self._kept[pair] = self._kept.get(pair, 0) + 1
        return is_new

    def ranks(self):
        """Return the dict from the pairs of places to how many states were kept there."""
        return dict(self._kept)

    def bits(self):
        """Return a number of bits that no determinant that what was told depends on exceeds."""
        return max([bound.bits() for bound in self._bounds.values()] + [1])

    def effort(self):
        """Return about how many products it took for each prime."""
        return self._effort

    def _widen(self, pair, lengths, rows):
        """Add the rows of a state to the spans of its pair, and tell whether one of them was widened."""
        if pair not in self._spans:
            self._spans[pair] = [Span(len(row), prime) for row, prime in zip(rows, self._primes)]
            self._bounds[pair] = Bound(self._one.boxes, self._two.boxes)
        self._effort += self._spans[pair][0].effort()
        self._bounds[pair].ask(lengths[0], lengths[1])
        # A prime can divide a determinant by chance: so a row that only one prime tells apart is new, too.
        news = [span.take(row) for span, row in zip(self._spans[pair], rows)]
        if True not in news:
            return False
        self._bounds[pair].keep(lengths[0], lengths[1])
        return True

    def _move(self, pair, letter):
        """Return the next pair of places, how the boxes of both grow, and the terms for each prime, or None."""
        one_target, one_fillings = _move_of(self._one, pair[0], letter)
        two_target, two_fillings = _move_of(self._two, pair[1], letter)
        target = (one_target, two_target)
        if target == (None, None):
            return None
        if None in target:
            return target, ([], []), []
        growths = (_growth(self._one.boxes, one_fillings), _growth(self._two.boxes, two_fillings))
        maps = []
        for prime in self._primes:
            terms = terms_of(self._one.boxes, one_fillings, prime)
            behind = terms_of(self._two.boxes, two_fillings, prime)
            maps.append(terms + [[(by, at + len(terms)) for by, at in line] for line in behind])
        return target, growths, maps


def _move_of(program, place, letter):
    """Return the next place, or None, and the fillings; a program that has refused the text has no place."""
    found = None if place is None else program.move(place, letter)
    return (None, {}) if found is None else found


def _growth(boxes, fillings):
    """Return for each box the pair of how many letters it gets, and of the list of the indices of the boxes it gets."""
    found = []
    for box in boxes:
        parts = parts_of(fillings.get(box, ""), boxes)
        letters = sum([len(part) for part in parts if part not in boxes])
        found.append((letters, [boxes.index(part) for part in parts if part in boxes]))
    return found


def _grown(lengths, growth):
    """Return the lengths of boxes behind a move."""
    return [letters + sum([lengths[at] for at in taken]) for letters, taken in growth]
