"""What programs tell of great texts (point 10 of the document).

Nothing is written out: what is told is a rope, in which what is put again and again stands only once.
"""

from textboxes.errors import BadGreat, BadPiece
from textboxes.ropes import length_of, letters_of, piece_of
from textboxes.signs import has_only, is_number, is_pair
from textboxes.strides import GreatSteps

MOST_TIMES = 10 ** 30
LONGEST_PIECE = 1000


def great_place(program, parts):
    """Return the place behind a great text, or None if it is refused before."""
    check_parts(program, parts)
    state = GreatSteps(program).behind(parts)
    return None if state is None else state[0]


def great_length(program, parts):
    """Return the number of letters of what is told of a great text, or None if it is refused."""
    check_parts(program, parts)
    rope = GreatSteps(program).told(parts)
    return None if rope is None else length_of(rope)


def great_letters(program, parts):
    """Return the dict from the letters of what is told of a great text to how often each stands there, or None."""
    check_parts(program, parts)
    rope = GreatSteps(program).told(parts)
    return None if rope is None else letters_of(rope)


def great_piece(program, parts, first, length):
    """Return the piece of what is told of a great text that begins at an index, or None if the text is refused."""
    check_parts(program, parts)
    if not is_number(first) or first < 0:
        raise BadPiece(first)
    if not is_number(length) or not 0 <= length <= LONGEST_PIECE:
        raise BadPiece(length)
    rope = GreatSteps(program).told(parts)
    if rope is None:
        return None
    if first + length > length_of(rope):
        raise BadPiece(first + length)
    return piece_of(rope, first, length)


def check_parts(program, parts):
    """Raise BadGreat with the index of the first thing that cannot be a part of a great text."""
    if not isinstance(parts, (list, tuple)):
        raise BadGreat(0)
    letters = program.letters
    for index, part in enumerate(parts):
        if not is_pair(part) or not isinstance(part[0], str) or not has_only(part[0], letters):
            raise BadGreat(index)
        if not is_number(part[1]) or not 0 <= part[1] <= MOST_TIMES:
            raise BadGreat(index)

