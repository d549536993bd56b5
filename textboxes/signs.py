"""Letters, boxes, names and fillings (point 2 of the document)."""

LETTERS = "abcdefghijklmnopqrstuvwxyz"
BOXES = "ABCDEFGHIJKLMNOPQRSTUVWXYZ"
LONGEST_NAME = 8


def is_text(thing):
    """Tell whether an object is a string of letters, perhaps without any."""
    return isinstance(thing, str) and all([sign in LETTERS for sign in thing])


def is_name(thing):
    """Tell whether an object is a name of a place."""
    return is_text(thing) and 1 <= len(thing) <= LONGEST_NAME


def is_filling(thing, boxes):
    """Tell whether an object is a filling of some of these boxes and any letters."""
    if not isinstance(thing, str):
        return False
    used = {}
    for sign in thing:
        if sign in LETTERS:
            continue
        if sign not in boxes or sign in used:
            return False
        used[sign] = True
    return True


def are_different(strings):
    """Tell whether no two of these strings, or of the signs of one string, are equal."""
    return len(set(strings)) == len(strings)


def in_order(signs):
    """Return the string of the same signs, ascending."""
    return "".join(sorted(signs))


def parts_of(filling):
    """Return the boxes of a filling and the texts between them that are not empty, in order."""
    parts = []
    start = 0
    for at, sign in enumerate(filling):
        if sign in BOXES:
            if start < at:
                parts.append(filling[start:at])
            parts.append(sign)
            start = at + 1
    if start < len(filling):
        parts.append(filling[start:])
    return parts
