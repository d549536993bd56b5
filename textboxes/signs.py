"""Letters, boxes, names and fillings (point 2 of the document), and the checks of what is made of them."""

from textboxes.errors import OtherLetters

LETTERS = "abcdefghijklmnopqrstuvwxyz"
BOXES = "ABCDEFGHIJKLMNOPQRSTUVWXYZ"
LONGEST_NAME = 8


def is_text(thing):
    """Tell whether an object is a string of letters, perhaps without any."""
    if not isinstance(thing, str):
        return False
    # Fillings of made programs can be very long, so their signs are not gone through one by one.
    return thing == "" or (thing.isascii() and thing.isalpha() and thing.islower())


def is_letter(thing):
    """Tell whether an object is a letter."""
    return is_text(thing) and len(thing) == 1


def are_letters(thing, most):
    """Tell whether an object is a string of one or more, but at most so many different letters."""
    return is_text(thing) and 1 <= len(thing) <= most and are_different(thing)


def is_name(thing):
    """Tell whether an object is a name of a place."""
    return is_text(thing) and 1 <= len(thing) <= LONGEST_NAME


def are_names(thing):
    """Tell whether an object is a list of one or more different names."""
    if not isinstance(thing, (list, tuple)) or len(thing) == 0:
        return False
    return all([is_name(name) for name in thing]) and are_different(thing)


def is_filling(thing, boxes):
    """Tell whether an object is a filling of some of these boxes and any letters."""
    if not isinstance(thing, str):
        return False
    rest = thing
    for box in boxes:
        if rest.count(box) > 1:
            return False
        rest = rest.replace(box, "")
    return is_text(rest)


def is_number(thing):
    """Tell whether an object is an integer; True and False are not."""
    return isinstance(thing, int) and not isinstance(thing, bool)


def is_pair(thing):
    """Tell whether an object is a pair."""
    return isinstance(thing, (list, tuple)) and len(thing) == 2


def has_only(text, letters):
    """Tell whether a string consists of these letters only."""
    return len(set(text) - set(letters)) == 0


def is_one_of(thing, strings):
    """Tell whether an object is one of the strings of a list, a tuple or a dict."""
    # An object that is no string could be equal to one of them, or raise an error when it is compared.
    return isinstance(thing, str) and thing in strings


def are_different(strings):
    """Tell whether no two of these strings, or of the signs of one string, are equal."""
    return len(set(strings)) == len(strings)


def in_order(signs):
    """Return the string of the same signs, ascending."""
    return "".join(sorted(signs))


def check_same_letters(one, two):
    """Raise OtherLetters with the first letter, ascending, that stands in only one of two strings."""
    others = sorted(set(one) ^ set(two))
    if others:
        raise OtherLetters(others[0])


def parts_of(filling, boxes):
    """Return the boxes of a filling and the texts between them that are not empty, in order."""
    parts = []
    start = 0
    for at in sorted([filling.find(box) for box in boxes if box in filling]):
        if start < at:
            parts.append(filling[start:at])
        parts.append(filling[at])
        start = at + 1
    if start < len(filling):
        parts.append(filling[start:])
    return parts
