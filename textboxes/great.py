"""What programs tell of great texts (point 10 of the document).

Nothing is written out: what is told is a rope, in which what is put again and again stands only once.
"""

from textboxes.errors import BadGreat, BadPiece
from textboxes.ropes import length_of, letters_of, piece_of
from textboxes.signs import has_only, is_pair
from textboxes.steps import Steps, composed, filled

MOST_TIMES = 10 ** 30
LONGEST_PIECE = 1000


def great_place(program, parts):
    """Return the place behind a great text, or None if it is refused before."""
    _check_parts(program, parts)
    state = GreatSteps(program).behind(parts)
    return None if state is None else state[0]


def great_length(program, parts):
    """Return the number of letters of what is told of a great text, or None if it is refused."""
    _check_parts(program, parts)
    rope = GreatSteps(program).told(parts)
    return None if rope is None else length_of(rope)


def great_letters(program, parts):
    """Return the dict from the letters of what is told of a great text to how often each stands there, or None."""
    _check_parts(program, parts)
    rope = GreatSteps(program).told(parts)
    return None if rope is None else letters_of(rope)


def great_piece(program, parts, first, length):
    """Return the piece of what is told of a great text that begins at an index, or None if the text is refused."""
    _check_parts(program, parts)
    if not _is_number(first) or first < 0:
        raise BadPiece(first)
    if not _is_number(length) or not 0 <= length <= LONGEST_PIECE:
        raise BadPiece(length)
    rope = GreatSteps(program).told(parts)
    if rope is None:
        return None
    if first + length > length_of(rope):
        raise BadPiece(first + length)
    return piece_of(rope, first, length)


def _is_number(thing):
    return isinstance(thing, int) and not isinstance(thing, bool)


def _check_parts(program, parts):
    """Raise BadGreat with the index of the first thing that cannot be a part of a great text."""
    if not isinstance(parts, (list, tuple)):
        raise BadGreat(0)
    letters = program.letters
    for index, part in enumerate(parts):
        if not is_pair(part) or not isinstance(part[0], str) or not has_only(part[0], letters):
            raise BadGreat(index)
        if not _is_number(part[1]) or not 0 <= part[1] <= MOST_TIMES:
            raise BadGreat(index)


class GreatSteps:
    """The steps of a program along the parts of great texts."""

    def __init__(self, program):
        self._steps = Steps(program)
        self._ways = {}
        self._doubled = {}

    def told(self, parts):
        """Return the rope of what is told of a great text, or None."""
        return self._steps.ended(self.behind(parts))

    def behind(self, parts):
        """Return the state behind a great text, or None."""
        state = self._steps.first()
        for text, many in parts:
            state = self._repeated(state, text, many)
            if state is None:
                return None
        return state

    def _repeated(self, state, text, many):
        """Return the state behind reading a text so many times, or None."""
        place, ropes = state
        met = {}
        path = []
        while len(path) < many and place not in met:
            met[place] = len(path)
            found = self._way(place, text)
            if found is None:
                return None
            path.append(place)
            place, fillings = found
            ropes = filled(fillings, ropes)
        if len(path) == many:
            return place, ropes
        # From here on the places come again and again in the same order.
        ring = path[met[place]:]
        rounds, rest = divmod(many - len(path), len(ring))
        ropes = self._rounded(ring, text, rounds, ropes)
        for one in ring[:rest]:
            place, fillings = self._way(one, text)
            ropes = filled(fillings, ropes)
        return place, ropes

    def _way(self, place, text):
        key = (place, text)
        if key not in self._ways:
            self._ways[key] = self._steps.along(place, text)
        return self._ways[key]

    def _rounded(self, ring, text, rounds, ropes):
        """Return the ropes behind going through a ring of places so many times."""
        at = 0
        while rounds >> at > 0:
            if (rounds >> at) & 1 == 1:
                ropes = filled(self._round(ring, text, at), ropes)
            at += 1
        return ropes

    def _round(self, ring, text, doublings):
        """Return what the moves of a ring, doubled so many times, put together."""
        key = (ring[0], text)
        if key not in self._doubled:
            whole = self._way(ring[0], text)[1]
            for place in ring[1:]:
                whole = composed(whole, self._way(place, text)[1])
            self._doubled[key] = [whole]
        known = self._doubled[key]
        while len(known) <= doublings:
            known.append(composed(known[-1], known[-1]))
        return known[doublings]
