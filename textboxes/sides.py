"""One program that reads texts, and the rows of its marks, modulo primes (point 13 of the document)."""

from textboxes.fields import number_modulo, width_modulo
from textboxes.marking import marks_of, terms_of
from textboxes.signs import parts_of


class Side:
    """The states of a program behind texts, as far as their marks matter.

    Such a state is a tuple of the place, of the list of the lengths of the boxes, and of the list of the rows of the
    marks, one for each prime; or None behind a text that the program has refused.
    """

    def __init__(self, program, primes):
        self._program = program
        self._primes = primes
        self._moves = {}
        self._effort = 0

    def effort(self):
        """Return about how many products it took for each prime."""
        return self._effort

    def first(self):
        """Return the state behind the empty text."""
        boxes = self._program.boxes
        row = [1 if box == "" else 0 for _, box in marks_of(boxes)]
        return self._program.places[0], [0 for _ in boxes], [list(row) for _ in self._primes]

    def after(self, state, letter):
        """Return the state behind one more letter."""
        if state is None:
            return None
        place, lengths, rows = state
        key = (place, letter)
        if key not in self._moves:
            self._moves[key] = self._move(place, letter)
        if self._moves[key] is None:
            return None
        target, growth, maps = self._moves[key]
        # A mark behind a move is mostly the sum of two or three terms.
        self._effort += 3 * len(maps[0])
        found = []
        for prime, row, terms in zip(self._primes, rows, maps):
            found.append([sum([by * row[at] for by, at in line]) % prime for line in terms])
        return target, [letters + sum([lengths[at] for at in taken]) for letters, taken in growth], found

    def _move(self, place, letter):
        """Return the next place, how the boxes grow, and the terms for each prime, or None if there is no move."""
        found = self._program.move(place, letter)
        if found is None:
            return None
        target, fillings = found
        boxes = self._program.boxes
        self._effort += sum([len(filling) for filling in fillings.values()])
        return target, _growth(boxes, fillings), [_terms_modulo(boxes, fillings, prime) for prime in self._primes]


def _terms_modulo(boxes, fillings, prime):
    """Return the terms of a move modulo a prime."""
    terms = terms_of(
        boxes,
        fillings,
        lambda text: number_modulo(text, prime),
        lambda length: width_modulo(length, prime),
    )
    return [[(by % prime, at) for by, at in line] for line in terms]


def _growth(boxes, fillings):
    """Return for each box the pair of how many letters it gets, and of the list of the indices of the boxes it gets."""
    found = []
    for box in boxes:
        parts = parts_of(fillings.get(box, ""), boxes)
        letters = sum([len(part) for part in parts if part not in boxes])
        found.append((letters, [boxes.index(part) for part in parts if part in boxes]))
    return found
