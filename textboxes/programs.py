"""Programs (point 3 of the document) and their texts (point 7)."""

from textboxes.errors import BadProgram, BadText
from textboxes.signs import (
    BOXES,
    are_different,
    are_letters,
    are_names,
    in_order,
    is_filling,
    is_name,
    is_one_of,
    is_pair,
)

MOST_LETTERS = 5
MOST_BOXES = 6
MOST_PLACES = 50


class Program:
    """An immutable program."""

    def __init__(self, letters, boxes, places, moves, ends):
        if not are_letters(letters, MOST_LETTERS):
            raise BadProgram("letters")
        if not _are_boxes(boxes):
            raise BadProgram("boxes")
        if not _are_places(places):
            raise BadProgram("places")
        if not _are_moves(moves, letters, boxes, places):
            raise BadProgram("moves")
        if not _are_ends(ends, boxes, places):
            raise BadProgram("ends")
        self._letters = in_order(letters)
        self._boxes = in_order(boxes)
        self._places = tuple(places)
        self._moves = _kept_moves(moves)
        self._ends = {place: ends[place] for place in ends}

    @property
    def letters(self):
        """The letters, ascending."""
        return self._letters

    @property
    def boxes(self):
        """The boxes, ascending."""
        return self._boxes

    @property
    def places(self):
        """The tuple of the names of the places, in order."""
        return self._places

    def move(self, place, letter):
        """Return the pair of the next place and the dict of the fillings, or None."""
        found = self._moves.get((place, letter))
        if found is None:
            return None
        target, fillings = found
        return target, dict(fillings)

    def end(self, place):
        """Return the filling that is the end of a place, or None."""
        return self._ends.get(place)

    def __eq__(self, other):
        return (
            isinstance(other, Program)
            and self._letters == other._letters
            and self._boxes == other._boxes
            and self._places == other._places
            and self._moves == other._moves
            and self._ends == other._ends
        )

    def text(self):
        """Return the text of the program."""
        lines = [_line(["letters", self._letters]), _line(["boxes", self._boxes] if self._boxes else ["boxes"])]
        for place in self._places:
            lines.append(_place_line(place, self.end(place)))
            for letter in self._letters:
                found = self.move(place, letter)
                if found is not None:
                    target, fillings = found
                    lines.append(_move_line(letter, target, fillings))
        return "\n".join(lines)

    @classmethod
    def parse(cls, text):
        """Return the program that has a text."""
        lines = text.split("\n")
        letters, boxes = _read_head(lines)
        places, moves, ends = _read_places(lines, letters, boxes)
        return cls(letters, boxes, places, moves, ends)


def moves_of(program):
    """Return the dict of the moves of a program, in the order of the places, then of the letters."""
    keys = [(place, letter) for place in program.places for letter in program.letters]
    moves = {(place, letter): program.move(place, letter) for place, letter in keys}
    return {key: found for key, found in moves.items() if found is not None}


def ends_of(program):
    """Return the dict of the ends of a program, in the order of the places."""
    ends = {place: program.end(place) for place in program.places}
    return {place: end for place, end in ends.items() if end is not None}


def _are_boxes(thing):
    if not isinstance(thing, str) or len(thing) > MOST_BOXES:
        return False
    return all([sign in BOXES for sign in thing]) and are_different(thing)


def _are_places(thing):
    return are_names(thing) and len(thing) <= MOST_PLACES


def _are_moves(thing, letters, boxes, places):
    if not isinstance(thing, dict):
        return False
    # In a string, "in" would find the empty string and strings of several letters, too.
    letters_apart = list(letters)
    for key, found in thing.items():
        if not is_pair(key) or not is_pair(found):
            return False
        if not is_one_of(key[0], places) or not is_one_of(key[1], letters_apart):
            return False
        if not is_one_of(found[0], places) or not _are_fillings(found[1], boxes):
            return False
    return True


def _are_fillings(thing, boxes):
    """Tell whether an object is a dict of fillings for one move."""
    if not isinstance(thing, dict):
        return False
    boxes_apart = list(boxes)
    if not all([is_one_of(box, boxes_apart) for box in thing]):
        return False
    if not all([isinstance(filling, str) for filling in thing.values()]):
        return False
    # No box stands in two of them: so all of them in one row are a filling.
    return is_filling("".join(thing.values()), boxes)


def _are_ends(thing, boxes, places):
    if not isinstance(thing, dict):
        return False
    for place, filling in thing.items():
        if not is_one_of(place, places) or not is_filling(filling, boxes):
            return False
    return True


def _kept_moves(moves):
    """Return a copy of the moves with the boxes ascending and without empty fillings."""
    kept = {}
    for (place, letter), (target, fillings) in moves.items():
        ascending = {box: fillings[box] for box in sorted(fillings) if fillings[box] != ""}
        kept[(place, letter)] = (target, ascending)
    return kept


def _line(words):
    return " ".join(words)


def _place_line(place, end):
    if end is None:
        return _line(["place", place])
    return _line(["place", place, "-" if end == "" else end])


def _move_line(letter, target, fillings):
    return _line([letter, target] + [f"{box}={filling}" for box, filling in fillings.items()])


def _read_head(lines):
    """Return the letters and the boxes that the first two lines tell."""
    letters = _read_letters(lines[0])
    if letters is None:
        raise BadText(1)
    if len(lines) < 2:
        raise BadText(2)
    boxes = _read_boxes(lines[1])
    if boxes is None:
        raise BadText(2)
    if len(lines) < 3:
        raise BadText(3)
    return letters, boxes


def _read_letters(line):
    """Return the letters that a line tells, or None if it cannot stand at the beginning."""
    word, _, letters = line.partition(" ")
    if word == "letters" and are_letters(letters, MOST_LETTERS) and letters == in_order(letters):
        return letters
    return None


def _read_boxes(line):
    """Return the boxes that a line tells, or None if it cannot stand behind the letters."""
    if line == "boxes":
        return ""
    word, _, boxes = line.partition(" ")
    if word == "boxes" and boxes != "" and _are_boxes(boxes) and boxes == in_order(boxes):
        return boxes
    return None


def _read_places(lines, letters, boxes):
    """Return the places, the moves and the ends that the lines from the third one on tell."""
    places = []
    moves = {}
    ends = {}
    leads = []
    last = ""
    for number, line in enumerate(lines[2:], start=3):
        words = line.split(" ")
        if _place_stands(words, places, boxes):
            places.append(words[1])
            if len(words) == 3:
                ends[words[1]] = "" if words[2] == "-" else words[2]
            last = ""
        elif places and _move_stands(words, letters, boxes, last):
            moves[(places[-1], words[0])] = (words[1], _read_fillings(words[2:]))
            leads.append((number, words[1]))
            last = words[0]
        else:
            raise BadText(number)
    # A place may be told behind a move that leads to it, so this is known only now.
    for number, target in leads:
        if target not in places:
            raise BadText(number)
    return places, moves, ends


def _place_stands(words, places, boxes):
    """Tell whether the words of a line tell a place that can stand behind these ones."""
    if words[0] != "place" or not 2 <= len(words) <= 3 or len(places) == MOST_PLACES:
        return False
    if not is_name(words[1]) or words[1] in places:
        return False
    return len(words) == 2 or words[2] == "-" or (words[2] != "" and is_filling(words[2], boxes))


def _move_stands(words, letters, boxes, last):
    """Tell whether the words of a line tell a move that can stand behind the one for the letter `last`."""
    if len(words) < 2 or words[0] not in list(letters) or words[0] <= last or not is_name(words[1]):
        return False
    fillings = _read_fillings(words[2:])
    if list(fillings) != sorted(fillings) or len(fillings) != len(words[2:]):
        return False
    return "" not in list(fillings.values()) and _are_fillings(fillings, boxes)


def _read_fillings(words):
    """Return the dict of the fillings that words tell; a word without `=` tells an empty one."""
    fillings = {}
    for word in words:
        box, _, filling = word.partition("=")
        fillings[box] = filling
    return fillings
