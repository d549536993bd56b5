"""Programs that are part of the package (point 22 of the document)."""

from textboxes.programs import Program


def plain(letters):
    """Return the program that tells each text as it is."""
    moves = {("on", letter): ("on", {"X": "X" + letter}) for letter in letters}
    return Program(letters, "X", ["on"], moves, {"on": "X"})


def backward(letters):
    """Return the program that turns each text round."""
    moves = {("on", letter): ("on", {"X": letter + "X"}) for letter in letters}
    return Program(letters, "X", ["on"], moves, {"on": "X"})


def exchanging(letters, sign):
    """Return the program that exchanges what stands ahead of the first sign and what stands behind it."""
    moves = {}
    for letter in letters:
        moves[("ahead", letter)] = ("ahead", {"X": "X" + letter})
        moves[("behind", letter)] = ("behind", {"X": "X", "Y": "Y" + letter})
    moves[("ahead", sign)] = ("behind", {"X": "X"})
    return Program(letters, "XY", ["ahead", "behind"], moves, {"behind": "Y" + sign + "X"})


def sorting(letters, sign):
    """Return the program that puts all signs ahead of all other letters."""
    moves = {("on", letter): ("on", {"X": "X", "Y": "Y" + letter}) for letter in letters}
    moves[("on", sign)] = ("on", {"X": "X" + sign, "Y": "Y"})
    return Program(letters, "XY", ["on"], moves, {"on": "XY"})


def halving(letters):
    """Return the program that takes every other letter, the first one ahead."""
    moves = {}
    for letter in letters:
        moves[("take", letter)] = ("leave", {"X": "X" + letter})
        moves[("leave", letter)] = ("take", {"X": "X"})
    return Program(letters, "X", ["take", "leave"], moves, {"take": "X", "leave": "X"})


def late(letters, sign):
    """Return the program that tells each text that ends with the sign, and the empty text of all others."""
    moves = {}
    for place in ("no", "yes"):
        for letter in letters:
            moves[(place, letter)] = ("yes" if letter == sign else "no", {"X": "X" + letter})
    return Program(letters, "X", ["no", "yes"], moves, {"no": "", "yes": "X"})
