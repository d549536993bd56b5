"""What programs tell of texts, and their states behind texts (points 4, 5 and 6 of the document).

While a text is read, each box has a rope: a list of texts and of ropes that boxes had before. So a letter costs only
as much as the fillings of its move have parts, however long the texts of the boxes are.
"""

from textboxes.errors import NotLetter
from textboxes.signs import parts_of


def told(program, text):
    """Return what a program tells of a text, or None if it refuses it."""
    _check_text(program, text)
    state = _state_behind(program, text)
    if state is None:
        return None
    place, ropes = state
    end = program.end(place)
    if end is None:
        return None
    return _written(_filled(parts_of(end), ropes))


def behind(program, text):
    """Return the state behind reading a text, or None if the text is refused before."""
    _check_text(program, text)
    state = _state_behind(program, text)
    if state is None:
        return None
    place, ropes = state
    return place, {box: _written(ropes[box]) for box in program.boxes}


def _check_text(program, text):
    if not isinstance(text, str):
        raise NotLetter(text)
    letters = program.letters
    for sign in text:
        if sign not in letters:
            raise NotLetter(sign)


def _state_behind(program, text):
    """Return the place and the dict of the ropes of all boxes behind a text of letters, or None."""
    place = program.places[0]
    ropes = {box: [] for box in program.boxes}
    moves = {}
    for letter in text:
        key = (place, letter)
        if key not in moves:
            moves[key] = _move_in_parts(program, place, letter)
        if moves[key] is None:
            return None
        place, fillings = moves[key]
        ropes = {box: _filled(parts, ropes) for box, parts in fillings.items()}
    return place, ropes


def _move_in_parts(program, place, letter):
    """Return the next place and the dict of the parts that each box gets, or None if there is no move."""
    found = program.move(place, letter)
    if found is None:
        return None
    target, fillings = found
    return target, {box: parts_of(fillings.get(box, "")) for box in program.boxes}


def _filled(parts, ropes):
    """Return the rope of the parts of a filling."""
    if len(parts) == 1 and parts[0] in ropes:
        # A box that is kept as it is would else be a rope in a rope for each letter.
        return ropes[parts[0]]
    return [ropes.get(part, part) for part in parts]


def _written(rope):
    """Return the text of a rope."""
    texts = []
    waiting = [rope]
    while waiting:
        piece = waiting.pop()
        if isinstance(piece, str):
            texts.append(piece)
        else:
            waiting.extend(piece[::-1])
    return "".join(texts)
