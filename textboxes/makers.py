"""New programs made of programs (point 9 of the document)."""

from textboxes.errors import BadLetters, TooMany
from textboxes.programs import MOST_BOXES, MOST_LETTERS, MOST_PLACES, Program, ends_of, moves_of
from textboxes.ropes import written
from textboxes.signs import BOXES, LETTERS, check_same_letters, has_only, in_order, is_letter, is_text, parts_of
from textboxes.steps import Steps
from textboxes.widths import text_of


def told_by(program, table):
    """Return the program that tells for each letter the text that a letter table has for it, if it has one."""
    if not isinstance(table, dict):
        raise BadLetters(None)
    _check_letter_table(table, LETTERS)
    return _refilled(program, program.boxes, lambda filling: "".join([table.get(sign, sign) for sign in filling]))


def led_by(program, table):
    """Return the program that reads for each letter the text that a letter table has for it."""
    if not isinstance(table, dict) or not 1 <= len(table) <= MOST_LETTERS:
        raise BadLetters(None)
    _check_letter_table(table, program.letters)
    steps = Steps(program)
    moves = {}
    for place in program.places:
        for letter, text in table.items():
            found = steps.along(place, text)
            if found is not None:
                target, fillings = found
                moves[(place, letter)] = (target, {box: _filling_of(parts) for box, parts in fillings.items()})
    return Program(in_order(table), program.boxes, program.places, moves, ends_of(program))


def turned(program):
    """Return the program that tells the letters in the opposite order."""
    # If each box has the text that it had, turned round, each filling has just to be turned round.
    return _refilled(program, program.boxes, lambda filling: filling[::-1])


def joined(one, two):
    """Return the program that tells what one program tells and, behind that, what another one tells."""
    check_same_letters(one.letters, two.letters)
    return _made_of_two(one, two, _joined_place, _joined_end)


def either(one, two):
    """Return the program that tells what one program tells, or what another one tells if the first one refuses."""
    check_same_letters(one.letters, two.letters)
    return _made_of_two(one, two, _either_place, _either_end)


def within(program, table):
    """Return the program that tells what a program tells of those texts that a table takes."""
    check_same_letters(program.letters, table.letters)

    def lead(pair, letter):
        found = program.move(pair[0], letter)
        place = table.step(pair[1], letter)
        if found is None or place is None:
            return None
        target, fillings = found
        return (target, place), fillings

    def end(pair):
        return program.end(pair[0]) if pair[1] in table.good else None

    first = (program.places[0], table.places[0])
    return _walked(program.letters, program.boxes, first, lead, end)


def _check_letter_table(table, letters):
    """Raise BadLetters with the first key that is no letter, or whose value is not a text of these letters."""
    for key, text in table.items():
        if not is_letter(key) or not is_text(text) or not has_only(text, letters):
            raise BadLetters(key)


def _refilled(program, boxes, change):
    """Return a program with other boxes, and with all its fillings changed by a function."""
    names = {box: boxes[at] for at, box in enumerate(program.boxes)}
    moves = {}
    for key, (target, fillings) in moves_of(program).items():
        moves[key] = (target, {names[box]: change(fillings[box]) for box in fillings})
    ends = {place: change(end) for place, end in ends_of(program).items()}
    return Program(program.letters, boxes, program.places, moves, ends)


def _with_boxes(program, boxes):
    """Return a program with other names for its boxes."""
    names = {box: boxes[at] for at, box in enumerate(program.boxes)}
    return _refilled(program, boxes, lambda filling: _renamed(filling, names))


def _renamed(filling, names):
    """Return a filling with other names for its boxes."""
    return "".join([names.get(part, part) for part in parts_of(filling, list(names))])


def _filling_of(parts):
    """Return the filling that consists of boxes and ropes."""
    return "".join([written(part) for part in parts])


def _made_of_two(one, two, pair_of, end_of):
    """Return the program that runs two programs at once, as two functions tell."""
    many = len(one.boxes) + len(two.boxes)
    if many > MOST_BOXES:
        raise TooMany("boxes")
    boxes = BOXES[:many]
    first = _with_boxes(one, boxes[:len(one.boxes)])
    second = _with_boxes(two, boxes[len(one.boxes):])

    def lead(pair, letter):
        target, fillings = _move_of_one(first, pair[0], letter)
        other_target, other_fillings = _move_of_one(second, pair[1], letter)
        found = pair_of(target, other_target)
        return None if found is None else (found, {**fillings, **other_fillings})

    def end(pair):
        return end_of(_end_of_one(first, pair[0]), _end_of_one(second, pair[1]))

    return _walked(one.letters, boxes, (one.places[0], two.places[0]), lead, end)


def _joined_place(target, other_target):
    return None if target is None or other_target is None else (target, other_target)


def _joined_end(end, other_end):
    return None if end is None or other_end is None else end + other_end


def _either_place(target, other_target):
    return None if target is None and other_target is None else (target, other_target)


def _either_end(end, other_end):
    return other_end if end is None else end


def _move_of_one(program, place, letter):
    """Return the next place, or None, and the fillings; a program that has refused the text has no place."""
    found = None if place is None else program.move(place, letter)
    return (None, {}) if found is None else found


def _end_of_one(program, place):
    return None if place is None else program.end(place)


def _walked(letters, boxes, first, lead, end):
    """Return the program whose places are the pairs that moves lead to from the first one."""
    names = {first: text_of(1)}
    pairs = [first]
    moves = {}
    at = 0
    while at < len(pairs):
        pair = pairs[at]
        at += 1
        for letter in letters:
            found = lead(pair, letter)
            if found is None:
                continue
            target, fillings = found
            if target not in names:
                if len(pairs) == MOST_PLACES:
                    raise TooMany("places")
                pairs.append(target)
                names[target] = text_of(len(pairs))
            moves[(names[pair], letter)] = (names[target], fillings)
    ends = {names[pair]: end(pair) for pair in pairs}
    kept = {place: filling for place, filling in ends.items() if filling is not None}
    return Program(letters, boxes, [names[pair] for pair in pairs], moves, kept)
