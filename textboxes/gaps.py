"""By how much what one program tells is worth more than what another one tells (point 17 of the document)."""

from textboxes.errors import BadWorths
from textboxes.signs import check_same_letters, is_letter, is_number
from textboxes.uses import Ways
from textboxes.walks import text_to


def gap(one, two, worths=None):
    """Return the greatest gap of two programs with a shortest text, or three texts that show that gaps are endless."""
    check_same_letters(one.letters, two.letters)
    _check_worths(worths)
    ways = Ways(one, two, worths)
    if not ways.firsts:
        return ("none",)
    # One more of worth is more than all letters of a way without rings: so the shortest of the best ways is found, and
    # a ring is more than nothing just if its worth is more than 0.
    factor = len(ways.steps) + 1
    values, came = _best(ways, factor)
    at = _on_ring(came)
    if at is not None:
        ahead, behind = _shortest(ways, ways.firsts, {at: True}), _shortest(ways, [at], ways.lasts)
        return "endless", ahead, _ring(came, at), behind
    totals = {node: values[node] + ways.lasts[node] * factor for node in ways.lasts if values[node] is not None}
    last = max(totals, key=lambda node: totals[node])
    return "most", -(-totals[last] // factor), text_to(came, last)


def _check_worths(worths):
    """Raise BadWorths with the first key that is no letter, or whose value is no integer, or None if it is no dict."""
    if worths is None:
        return
    if not isinstance(worths, dict):
        raise BadWorths(None)
    for letter, worth in worths.items():
        if not is_letter(letter) or not is_number(worth):
            raise BadWorths(letter)


def _best(ways, factor):
    """Return for each node the greatest value of a way to it, and from where the last letter of such a way led to it.

    Each letter adds its worth times the factor, less 1. If values grow without end, what came before has a ring, and
    values are those of some time on the way.
    """
    values = [None for _ in ways.steps]
    came = [(0, "") for _ in ways.steps]
    for node in ways.firsts:
        values[node] = 0
    active = list(ways.firsts)
    rounds = 0
    while active:
        changed = {}
        for node in active:
            for letter, worth, target in ways.steps[node]:
                value = values[node] + worth * factor - 1
                if values[target] is None or value > values[target]:
                    values[target] = value
                    came[target] = (node, letter)
                    changed[target] = True
        active = list(changed)
        rounds += 1
        # To look for rings takes as long as some rounds: it is done when there were twice as many as before.
        if rounds & (rounds - 1) == 0 and _on_ring(came) is not None:
            break
    return values, came


def _on_ring(came):
    """Return a node to which one comes back by what came before, or None."""
    met = {}
    for start in range(len(came)):
        at = start
        while came[at][1] != "" and at not in met:
            met[at] = start
            at = came[at][0]
        if met.get(at) == start:
            return at
    return None


def _ring(came, at):
    """Return the text of the ring on which a node stands."""
    before, letter = came[at]
    letters = [letter]
    while before != at:
        before, letter = came[before]
        letters.append(letter)
    return "".join(letters[::-1])


def _shortest(ways, starts, wanted):
    """Return a shortest text that leads from one of some nodes to one of those that a dict has as its keys."""
    waiting = list(starts)
    came = {start: (start, "") for start in starts}
    at = 0
    while waiting[at] not in wanted:
        for letter, _, target in ways.steps[waiting[at]]:
            if target not in came:
                came[target] = (waiting[at], letter)
                waiting.append(target)
        at += 1
    return text_to(came, waiting[at])
