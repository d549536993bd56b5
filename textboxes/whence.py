"""From which letters that were read the letters come that are told (point 20 of the document)."""

from textboxes.errors import BadPiece
from textboxes.great import check_parts
from textboxes.ropes import length_of
from textboxes.signs import is_number, parts_of
from textboxes.steps import Steps, check_text
from textboxes.strides import GreatSteps


def origins(program, text):
    """Return the list of the origins of the letters of what is told of a text, or None if it is refused."""
    check_text(program, text)
    steps = Steps(program)
    place, _ = steps.first()
    path = []
    for letter in text:
        found = steps.move(place, letter)
        if found is None:
            return None
        place, fillings = found
        path.append(fillings)
    end = program.end(place)
    if end is None:
        return None
    return _written(_row_of(parts_of(end, program.boxes), path))


def great_origin(program, parts, index):
    """Return the origin of the letter at an index of what is told of a great text, or None if it is refused."""
    check_parts(program, parts)
    if not is_number(index) or index < 0:
        raise BadPiece(index)
    found = GreatSteps(program).strides(parts)
    end = None if found is None else program.end(found[0])
    if end is None:
        return None
    strides = found[1]
    path, lengths = _path_of([stride.fillings for stride in strides], {box: 0 for box in program.boxes})
    told_at = _found_at(parts_of(end, program.boxes), lengths, index)
    if told_at is None:
        raise BadPiece(index)
    box, rest = told_at
    if box is None:
        return sum([stride.length for stride in strides])
    return _origin_in(Steps(program), strides, path, box, rest)


def _row_of(end, path):
    """Return what is told by an end, in parts, and the fillings ahead of it, in parts, as a row.

    A row is a list of pairs of an origin and of how many letters have it, and of further rows.
    """
    row = []
    waiting = _put_into(row, end, len(path))
    for origin in reversed(range(len(path))):
        # Where a box stands is a row, too: what its filling puts there becomes known only now, seen from the end.
        rows = [_put_into(inner, path[origin][box], origin) for box, inner in waiting.items()]
        waiting = {box: inner for found in rows for box, inner in found.items()}
    return row


def _put_into(row, parts, origin):
    """Put the letters of a filling, in parts, into a row, and return the dict from its boxes to rows for them."""
    rows = {}
    for part in parts:
        if part.isupper():
            rows[part] = []
            row.append(rows[part])
        else:
            row.append((origin, len(part)))
    return rows


def _written(row):
    """Return the list of the origins that a row tells."""
    found = []
    waiting = [row]
    while waiting:
        one = waiting.pop()
        if isinstance(one, list):
            waiting.extend(one[::-1])
        else:
            origin, many = one
            found.extend([origin] * many)
    return found


def _origin_in(steps, strides, path, box, index):
    """Return the origin of the letter at an index of a box behind strides; the path tells them as `_path_of` does."""
    at, box, index = _put_at(path, box, index)
    ahead = sum([stride.length for stride in strides[:at]])
    stride = strides[at]
    lengths = path[at][1]
    while stride.halves is not None:
        first, then = stride.halves
        path, _ = _path_of([first.fillings, then.fillings], lengths)
        at, box, index = _put_at(path, box, index)
        ahead += at * first.length
        stride = stride.halves[at]
        lengths = path[at][1]
    place, text = stride.block
    moves = []
    for letter in text:
        place, fillings = steps.move(place, letter)
        moves.append(fillings)
    path, _ = _path_of(moves, lengths)
    return ahead + _put_at(path, box, index)[0]


def _path_of(moves, lengths):
    """Return fillings in parts, each with the lengths of the boxes ahead of it, and the lengths behind the last one."""
    path = []
    for fillings in moves:
        path.append((fillings, lengths))
        lengths = _lengths_behind(fillings, lengths)
    return path, lengths


def _lengths_behind(fillings, lengths):
    found = {}
    for box, parts in fillings.items():
        found[box] = sum([lengths[part] if part in lengths else length_of(part) for part in parts])
    return found


def _put_at(path, box, index):
    """Return at which index of a path the letter at an index of a box was put, into which box, and at which index."""
    for at in reversed(range(len(path))):
        fillings, lengths = path[at]
        inner, rest = _found_at(fillings[box], lengths, index)
        if inner is None:
            return at, box, index
        box, index = inner, rest
    return None


def _found_at(parts, lengths, index):
    """Return the box, or None for letters, and the index in it that stand at an index of a filling, or None."""
    for part in parts:
        many = lengths[part] if part in lengths else length_of(part)
        if index < many:
            return (part if part in lengths else None), index
        index -= many
    return None
