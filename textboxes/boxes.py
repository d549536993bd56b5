"""Which boxes are needed, which are always equal, and what boxes always have (point 18 of the document)."""

from textboxes.errors import BadBox
from textboxes.programs import Program, ends_of, moves_of
from textboxes.runs import behind
from textboxes.searches import searched
from textboxes.signs import is_one_of


def needed(program):
    """Return the dict from the places to the strings of the boxes that are needed there."""
    ahead = _put_by_moves(program)
    waiting = [(place, box) for place, end in ends_of(program).items() for box in program.boxes if box in end]
    found = {one: True for one in waiting}
    while waiting:
        for one in ahead.get(waiting.pop(), []):
            if one not in found:
                found[one] = True
                waiting.append(one)
    return {place: "".join([box for box in program.boxes if (place, box) in found]) for place in program.places}


def cleared(program):
    """Return the program in which moves fill just the boxes that are needed behind them, and which has no others."""
    wanted = needed(program)
    wanted_anywhere = "".join(wanted.values())
    boxes = "".join([box for box in program.boxes if box in wanted_anywhere])
    moves = {}
    for key, (target, fillings) in moves_of(program).items():
        moves[key] = (target, {box: fillings[box] for box in fillings if box in wanted[target]})
    return Program(program.letters, boxes, program.places, moves, ends_of(program))


def unequal(program, one, other):
    """Return a shortest text behind which two boxes have unlike texts, or None."""
    _check_box(program, one)
    _check_box(program, other)
    if one == other:
        return None
    asked = _ending(program, one + other)

    def parts(text):
        _, texts = behind(asked, text)
        return texts[one] != texts[other]

    return searched(asked, _without_boxes(asked), parts)[2]


def always_has(program, box):
    """Return the dict from the places that texts lead to to the text that a box always has there, or None."""
    _check_box(program, box)
    asked = _ending(program, box)
    found = {}
    # The constant 1 is a mark. So where a box has the same text behind all kept texts, it has it behind all others.
    for text in searched(asked, _without_boxes(asked))[1]:
        place, texts = behind(asked, text)
        if found.setdefault(place, texts[box]) != texts[box]:
            found[place] = None
    return {place: found[place] for place in program.places if place in found}


def _put_by_moves(program):
    """Return the dict from pairs of a place and a box to the pairs whose texts moves put into the box there."""
    found = {}
    for (place, _), (target, fillings) in moves_of(program).items():
        for box, filling in fillings.items():
            ahead = [(place, one) for one in program.boxes if one in filling]
            found.setdefault((target, box), []).extend(ahead)
    return found


def _check_box(program, thing):
    """Raise BadBox if an object is not a box of a program."""
    if not is_one_of(thing, list(program.boxes)):
        raise BadBox(thing)


def _ending(program, end):
    """Return the program that has this end at each place, without what is not needed for it."""
    ends = {place: end for place in program.places}
    return cleared(Program(program.letters, program.boxes, program.places, moves_of(program), ends))


def _without_boxes(program):
    """Return the program that goes to the same places and has no boxes."""
    moves = {key: (target, {}) for key, (target, _) in moves_of(program).items()}
    return Program(program.letters, "", program.places, moves, {})
