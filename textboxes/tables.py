"""Tables, which take texts (point 15 of the document)."""

from textboxes.errors import BadTable
from textboxes.signs import LETTERS, are_letters, are_names, in_order, is_one_of, is_pair


class Table:
    """An immutable table."""

    def __init__(self, letters, places, moves, good):
        if not are_letters(letters, len(LETTERS)):
            raise BadTable("letters")
        if not are_names(places):
            raise BadTable("places")
        # Tables may have very many places: a dict tells at once whether it has a name.
        known = {place: True for place in places}
        if not _are_moves(moves, list(letters), known):
            raise BadTable("moves")
        if not _are_good(good, known):
            raise BadTable("good")
        self._letters = in_order(letters)
        self._places = tuple(places)
        self._moves = {(place, letter): target for (place, letter), target in moves.items()}
        good_ones = {place: True for place in good}
        self._good = tuple([place for place in self._places if place in good_ones])

    @property
    def letters(self):
        """The letters, ascending."""
        return self._letters

    @property
    def places(self):
        """The tuple of the names of the places, in order."""
        return self._places

    @property
    def good(self):
        """The tuple of the names of the good places, in the order of the places."""
        return self._good

    def step(self, place, letter):
        """Return the place to which a letter leads, or None."""
        return self._moves.get((place, letter))


def _are_moves(thing, letters, known):
    if not isinstance(thing, dict):
        return False
    for key, target in thing.items():
        if not is_pair(key) or not is_one_of(key[0], known) or not is_one_of(key[1], letters):
            return False
        if not is_one_of(target, known):
            return False
    return True


def _are_good(thing, known):
    return isinstance(thing, (list, tuple)) and all([is_one_of(name, known) for name in thing])
