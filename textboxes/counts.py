"""How many texts a program tells, and how long they are (point 19 of the document)."""

from textboxes.contexts import texts_told
from textboxes.errors import BadNumber
from textboxes.gaps import gap
from textboxes.programs import Program
from textboxes.signs import is_number
from textboxes.tallies import Tally
from textboxes.uses import Ways

MOST_LETTERS = 100


def all_told(program):
    """Return the list of all texts that a program tells, or None if they are endless."""
    return None if gap(program, _silent(program.letters))[0] == "endless" else texts_told(program)


def lengths(program, many):
    """Return the dict from lengths to how many texts of so many letters there are of which such a text is told."""
    if not is_number(many) or not 0 <= many <= MOST_LETTERS:
        raise BadNumber(many)
    ways = Ways(program, _silent(program.letters), None)
    steps = [_gathered(found) for found in ways.steps]
    # There are at most five letters, and so less than 2 to the power of 3 * many + 1 texts.
    bits = 3 * many + 1
    tallies = {node: _one_text(bits) for node in ways.firsts}
    for _ in range(many):
        behind = {}
        for node, tally in tallies.items():
            for (target, length), times in steps[node].items():
                if target not in behind:
                    behind[target] = Tally(bits)
                behind[target].take(tally, length, times)
        tallies = behind
    whole = Tally(bits)
    for node, tally in tallies.items():
        if node in ways.lasts:
            whole.take(tally, ways.lasts[node], 1)
    return whole.by_length()


def _silent(letters):
    """Return the program that tells the empty text of each text."""
    return Program(letters, "", ["a"], {("a", letter): ("a", {}) for letter in letters}, {"a": ""})


def _one_text(bits):
    """Return the tally of the empty text alone."""
    tally = Tally(bits)
    tally.start(1)
    return tally


def _gathered(steps):
    """Return the dict from pairs of a next node and a length to how many letters lead there with it."""
    found = {}
    for _, length, target in steps:
        found[(target, length)] = found.get((target, length), 0) + 1
    return found
