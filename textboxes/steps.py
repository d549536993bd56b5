"""The moves of programs as steps from state to state, also many of them at once (points 4 to 6 of the document).

While a text is read, each box has a rope. So a letter costs only as much as the fillings of its move have parts,
however long the texts of the boxes are. What a move puts is kept in parts: a dict from the boxes to lists of boxes and
of ropes.
"""

from textboxes.errors import NotLetter
from textboxes.ropes import put_together, rope_of, written
from textboxes.signs import parts_of


def check_text(program, text):
    """Raise NotLetter if an object is not a text of the letters of a program."""
    if not isinstance(text, str):
        raise NotLetter(text)
    letters = program.letters
    for sign in text:
        if sign not in letters:
            raise NotLetter(sign)


def filled(fillings, ropes):
    """Return the dict of the ropes that boxes get by fillings in parts."""
    return {box: rope_of([ropes.get(part, part) for part in parts]) for box, parts in fillings.items()}


def composed(first, then):
    """Return the fillings in parts of two moves, one behind another."""
    return {box: _put_into(parts, first) for box, parts in then.items()}


def _put_into(parts, first):
    """Return parts with each box in them replaced by what it gets by fillings in parts."""
    found = []
    for part in parts:
        for piece in first.get(part, [part]):
            if found and piece not in first and found[-1] not in first:
                found[-1] = put_together(found[-1], piece)
            else:
                found.append(piece)
    return found


class Steps:
    """The states of a program, and what leads from one to the next; a state is a place and a dict of ropes, or None."""

    def __init__(self, program):
        self._program = program
        self._boxes = program.boxes
        self._moves = {}

    def move(self, place, letter):
        """Return the pair of the next place and the fillings in parts, or None if there is no move."""
        key = (place, letter)
        if key not in self._moves:
            self._moves[key] = self._move_in_parts(place, letter)
        return self._moves[key]

    def _move_in_parts(self, place, letter):
        found = self._program.move(place, letter)
        if found is None:
            return None
        target, fillings = found
        return target, {box: parts_of(fillings.get(box, ""), self._boxes) for box in self._boxes}

    def along(self, place, text):
        """Return the pair of the place to which a text leads and what all its moves together put, or None."""
        fillings = {box: [box] for box in self._boxes}
        for letter in text:
            found = self.move(place, letter)
            if found is None:
                return None
            place, then = found
            fillings = composed(fillings, then)
        return place, fillings

    def first(self):
        """Return the first state."""
        return self._program.places[0], {box: "" for box in self._boxes}

    def behind(self, state, text):
        """Return the state to which a text leads from another one."""
        if state is None:
            return None
        place, ropes = state
        for letter in text:
            found = self.move(place, letter)
            if found is None:
                return None
            place, fillings = found
            ropes = filled(fillings, ropes)
        return place, ropes

    def shown(self, state):
        """Return a state with texts for ropes."""
        if state is None:
            return None
        place, ropes = state
        return place, {box: written(ropes[box]) for box in self._boxes}

    def ended(self, state):
        """Return the rope of what is told at a state, or None if it is refused."""
        if state is None:
            return None
        place, ropes = state
        end = self._program.end(place)
        if end is None:
            return None
        return rope_of([ropes.get(part, part) for part in parts_of(end, self._boxes)])

    def told(self, state):
        """Return what is told at a state, or None if it is refused."""
        rope = self.ended(state)
        return None if rope is None else written(rope)
