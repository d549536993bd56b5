"""Whether two programs tell the same of all texts (points 11 to 14 of the document)."""

from textboxes.fields import primes_beyond
from textboxes.marking import marks_of
from textboxes.runs import behind, told
from textboxes.signs import check_same_letters
from textboxes.twins import Twins
from textboxes.widths import number_of, width_of

MOST_EFFORT = 6000000


def marks(program, text):
    """Return the tuple of the place and the list of the marks of the state to which a text leads, or None."""
    state = behind(program, text)
    if state is None:
        return None
    place, texts = state
    widths = {box: width_of(len(texts[box])) for box in texts}
    numbers = {box: number_of(texts[box]) for box in texts}
    found = []
    for chosen, box in marks_of(program.boxes):
        mark = 1 if box == "" else numbers[box]
        for one in chosen:
            mark = mark * widths[one]
        found.append(mark)
    return place, found


def alike(one, two):
    """Return a shortest text of which two programs do not tell the same, or None if they are alike."""
    check_same_letters(one.letters, two.letters)
    return _searched(one, two, True)[2]


def enough(one, two):
    """Return a list of texts that is enough for two programs."""
    check_same_letters(one.letters, two.letters)
    return _searched(one, two, False)[1]


def is_enough(one, two, texts):
    """Tell whether a list of texts is enough for two programs."""
    check_same_letters(one.letters, two.letters)
    if "" not in texts:
        return False
    # A list with the empty text is enough just if its rows have the same sums as the rows of all texts, at each pair of
    # places: what holds for one more letter holds for all texts, and what is a sum of rows stays one.
    ranks = _searched(one, two, False)[0].ranks()
    primes = primes_beyond(1)
    while True:
        twins = _kept_of(one, two, texts, primes)
        if twins.ranks() == ranks:
            return True
        needed = _primes_needed(twins, primes)
        if needed is None:
            return False
        primes = needed


def _searched(one, two, until_parted):
    """Return the twins, the texts and the parted text of a search with as many primes as it needs."""
    primes = primes_beyond(1)
    while True:
        found = _search(one, two, primes, until_parted)
        needed = _primes_needed(found[0], primes)
        if needed is None:
            return found
        primes = needed


def _primes_needed(twins, primes):
    """Return the primes that must be taken instead, or None if what was found with these ones stands."""
    needed = primes_beyond(twins.bits())
    if needed is None or len(needed) <= len(primes) or twins.effort() * len(needed) > MOST_EFFORT:
        return None
    return needed


def _search(one, two, primes, until_parted):
    """Go through the texts by length, then by the alphabet, as far as they say more than those before.

    Returns the twins that kept them, the list of the texts that were kept, and the first one by which the programs are
    parted, where the search ends then, or None.
    """
    twins = Twins(one, two, primes)
    texts = [""]
    states = [twins.first()]
    twins.keep(states[0])
    if until_parted and told(one, "") != told(two, ""):
        return twins, texts, ""
    at = 0
    while at < len(texts):
        for letter in one.letters:
            text = texts[at] + letter
            state = twins.after(states[at], letter)
            if state is None or not twins.keep(state):
                continue
            texts.append(text)
            states.append(state)
            if until_parted and told(one, text) != told(two, text):
                return twins, texts, text
        at += 1
    return twins, texts, None


def _kept_of(one, two, texts, primes):
    """Return the twins that kept the states behind some texts."""
    twins = Twins(one, two, primes)
    states = {"": twins.first()}
    for text in sorted(texts, key=len):
        # Lists that are enough mostly have each text without its last letter, too.
        start = text[:-1] if text[:-1] in states else ""
        state = states[start]
        for letter in text[len(start):]:
            state = None if state is None else twins.after(state, letter)
        states[text] = state
        if state is not None:
            twins.keep(state)
    return twins
