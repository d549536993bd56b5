"""Tables, which take texts (point 15 of the document)."""

from textboxes.errors import BadTable
from textboxes.leasts import least_parts
from textboxes.signs import LETTERS, are_letters, are_names, in_order, is_one_of, is_pair
from textboxes.walks import first_text, reached


class Table:
    """An immutable table."""

    def __init__(self, letters, places, moves, good):
        if not are_letters(letters, len(LETTERS)):
            raise BadTable("letters")
        if not are_names(places):
            raise BadTable("places")
        # Tables may have very many places: a dict tells at once whether it has a name.
        known = {place: True for place in places}
        if not _are_moves(moves, list(letters), known):
            raise BadTable("moves")
        if not _are_good(good, known):
            raise BadTable("good")
        self._letters = in_order(letters)
        self._places = tuple(places)
        keys = [(place, letter) for place in self._places for letter in self._letters]
        self._moves = {key: moves[key] for key in keys if key in moves}
        good_ones = {place: True for place in good}
        self._good = tuple([place for place in self._places if place in good_ones])

    @property
    def letters(self):
        """The letters, ascending."""
        return self._letters

    @property
    def places(self):
        """The tuple of the names of the places, in order."""
        return self._places

    @property
    def good(self):
        """The tuple of the names of the good places, in the order of the places."""
        return self._good

    def ways(self):
        """Return the dict of the moves, in the order of the places, then of the letters."""
        return {key: target for key, target in self._moves.items()}

    def step(self, place, letter):
        """Return the place to which a letter leads, or None."""
        return self._moves.get((place, letter))

    def __eq__(self, other):
        return (
            isinstance(other, Table)
            and self._letters == other._letters
            and self._places == other._places
            and self._moves == other._moves
            and self._good == other._good
        )

    def takes(self, text):
        """Tell whether the table takes a text; one with a sign that is no letter of the table is not taken."""
        place = self._places[0]
        for letter in text:
            place = self.step(place, letter)
            if place is None:
                return False
        return place in self._good

    def least(self):
        """Return the table with the fewest places that takes the same texts."""
        return least_table(
            self._letters,
            self._places[0],
            lambda place, letter: self.step(place, letter),
            _judge(self),
        )

    def shortest(self):
        """Return the first one, by the alphabet, of the shortest texts that the table takes, or None."""
        return first_text(
            self._letters,
            self._places[0],
            lambda place, letter: self.step(place, letter),
            _judge(self),
        )

    def both(self, other):
        """Return the least table of the texts that both tables take."""
        is_good, is_good_there = _judge(self), _judge(other)
        return _least_of_two(self, other, lambda pair: is_good(pair[0]) and is_good_there(pair[1]))

    def either(self, other):
        """Return the least table of the texts that one of both tables takes, or both."""
        is_good, is_good_there = _judge(self), _judge(other)
        return _least_of_two(self, other, lambda pair: is_good(pair[0]) or is_good_there(pair[1]))

    def others(self):
        """Return the least table of the texts of the letters that the table does not take."""
        is_good = _judge(self)

        # None stands for the place of all texts that have no move.
        def lead(state, letter):
            return (self.step(state[0], letter),)

        return least_table(self._letters, (self._places[0],), lead, lambda state: not is_good(state[0]))


def are_alike(one, other):
    """Return the first one, by the alphabet, of the shortest texts that just one of two tables takes, or None."""
    is_good, is_good_there = _judge(one), _judge(other)
    return first_text(
        _all_letters(one, other),
        (one.places[0], other.places[0]),
        lambda pair, letter: _pair_behind(one, other, pair, letter),
        lambda pair: is_good(pair[0]) != is_good_there(pair[1]),
    )


def least_table(letters, first, lead, is_good):
    """Return the least table of the texts that lead to a good state, by functions as those of walks."""
    states, moves = reached(letters, first, lead)
    places, ways, good = least_parts(letters, moves, [is_good(state) for state in states])
    return Table(letters, places, ways, good)


def _least_of_two(one, other, is_good):
    """Return the least table of the texts that lead two tables to a good pair of places."""
    return least_table(
        _all_letters(one, other),
        (one.places[0], other.places[0]),
        lambda pair, letter: _pair_behind(one, other, pair, letter),
        is_good,
    )


def _all_letters(one, other):
    """Return the letters of either of two tables, ascending."""
    return "".join(sorted(set(one.letters) | set(other.letters)))


def _pair_behind(one, other, pair, letter):
    """Return the pair of the places behind a letter, None for a table that does not go on, or None if none does."""
    found = (one.step(pair[0], letter), other.step(pair[1], letter))
    return None if found == (None, None) else found


def _judge(table):
    """Return a function that tells whether a place of a table, perhaps None, is good."""
    good = {place: True for place in table.good}
    return lambda place: place in good


def _are_moves(thing, letters, known):
    if not isinstance(thing, dict):
        return False
    for key, target in thing.items():
        if not is_pair(key) or not is_one_of(key[0], known) or not is_one_of(key[1], letters):
            return False
        if not is_one_of(target, known):
            return False
    return True


def _are_good(thing, known):
    return isinstance(thing, (list, tuple)) and all([is_one_of(name, known) for name in thing])
