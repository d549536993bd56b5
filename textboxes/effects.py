"""What the texts of boxes do to the places of a table (point 16 of the document).

A text leads from each place of a table to a place, or nowhere. That is its effect: the tuple of the numbers of the
places to which it leads, the number behind the last one for nowhere. A table has only so many effects, however many
texts there are: so a state of a program is kept as its place and the effects of the texts of its boxes.
"""

from textboxes.signs import parts_of


class Effects:
    """The effects of texts, which are numbered."""

    def __init__(self, table):
        self._table = table
        self._numbers_of_places = {place: number for number, place in enumerate(table.places)}
        self._known = []
        self._numbers = {}
        self._composed = {}
        self._nowhere = len(table.places)
        self._nothing = self._number(tuple(range(self._nowhere + 1)))
        self._of_letters = {}

    def nothing(self):
        """Return the effect of the empty text."""
        return self._nothing

    def of_text(self, text):
        """Return the effect of a text."""
        effect = self._nothing
        for letter in text:
            if letter not in self._of_letters:
                self._of_letters[letter] = self._of_letter(letter)
            effect = self.composed(effect, self._of_letters[letter])
        return effect

    def composed(self, first, then):
        """Return the effect of a text and another one behind it."""
        key = (first, then)
        if key not in self._composed:
            follow = self._known[then]
            self._composed[key] = self._number(tuple([follow[at] for at in self._known[first]]))
        return self._composed[key]

    def is_taken(self, effect):
        """Tell whether the table takes a text with this effect."""
        at = self._known[effect][0]
        return at < self._nowhere and self._table.places[at] in self._table.good

    def _of_letter(self, letter):
        targets = [self._table.step(place, letter) for place in self._table.places]
        known = [self._numbers_of_places.get(target, self._nowhere) for target in targets]
        return self._number(tuple(known + [self._nowhere]))

    def _number(self, effect):
        if effect not in self._numbers:
            self._numbers[effect] = len(self._known)
            self._known.append(effect)
        return self._numbers[effect]


class EffectSteps:
    """The states of a program, in which each box has the effect of its text; they are tuples, or None."""

    def __init__(self, program, table):
        self._program = program
        self._effects = Effects(table)
        self._moves = {}
        self._ends = {}

    def first(self):
        """Return the first state."""
        return self._program.places[0], tuple([self._effects.nothing() for _ in self._program.boxes])

    def after(self, state, letter):
        """Return the state behind one more letter, or None."""
        place, held = state
        key = (place, letter)
        if key not in self._moves:
            self._moves[key] = self._move(place, letter)
        if self._moves[key] is None:
            return None
        target, fillings = self._moves[key]
        return target, tuple([self._put_together(parts, held) for parts in fillings])

    def takes(self, state):
        """Tell whether the table takes what the program tells, or return None if it tells nothing."""
        place, held = state
        end = self._program.end(place)
        if end is None:
            return None
        if place not in self._ends:
            self._ends[place] = self._parts(end)
        return self._effects.is_taken(self._put_together(self._ends[place], held))

    def _move(self, place, letter):
        found = self._program.move(place, letter)
        if found is None:
            return None
        target, fillings = found
        return target, [self._parts(fillings.get(box, "")) for box in self._program.boxes]

    def _parts(self, filling):
        """Return a filling as a list of pairs: the number of a box and None, or None and the effect of a text."""
        boxes = self._program.boxes
        found = []
        for part in parts_of(filling, boxes):
            found.append((boxes.index(part), None) if part in boxes else (None, self._effects.of_text(part)))
        return found

    def _put_together(self, parts, held):
        effect = self._effects.nothing()
        for box, known in parts:
            effect = self._effects.composed(effect, held[box] if known is None else known)
        return effect
