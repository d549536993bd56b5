"""Searches for texts that are enough to see whether two programs tell the same (point 14 of the document).

A text is kept if the row of the marks behind it is no sum of the rows of those that were kept before with the same pair
of places, each times a fraction. What was found modulo primes is certain if their product is greater than determinants
of such rows can be; or if relations hold behind all texts that leave room for no more rows than were kept.
"""

from textboxes.fields import FACTORS, first_primes, primes_for
from textboxes.relations import hold
from textboxes.twins import Twins

MOST_EFFORT = 6000000
FEW_PRIMES = (12, 48)


def searched(one, two, parts=None):
    """Return the twins, the texts and the parted text of a search with as many primes as it needs.

    The parted text is the first one for which the function `parts` tells that it parts the programs. Whether it does
    must depend on whether a sum of the marks behind the text is 0; or it is told so of all texts from some length on.
    """
    many = 1
    while True:
        twins, texts, parted = _search(one, two, first_primes(many), parts)
        more = _more_primes(twins, many, parted is None)
        if more is None or (parted is None and _is_certain(one, two, twins)):
            return twins, texts, parted
        many = more


def reaches(one, two, texts, ranks):
    """Tell whether of some texts as many would be kept at each pair of places as a dict from the pairs says."""
    many = 1
    while True:
        twins = _kept_of(one, two, texts, first_primes(many))
        if twins.ranks() == ranks:
            return True
        more = _more_primes(twins, many, False)
        if more is None or not _may_reach(twins.asked(), ranks):
            return False
        many = more


def _may_reach(asked, ranks):
    """Tell whether at each pair of places as many states were asked about as must be kept there."""
    return all([asked.get(pair, 0) >= rank for pair, rank in ranks.items()])


def _is_certain(one, two, twins):
    """Tell whether the rows of all texts are certainly sums of those that were kept."""
    relations = twins.relations()
    return relations is not None and hold(one, two, relations)


def _more_primes(twins, many, by_relations):
    """Return how many primes are to be tried instead of so many, or None if what was found stands."""
    needed = primes_for(twins.bits())
    most = min(MOST_EFFORT // (twins.effort() + 1), len(FACTORS))
    # With a few primes relations can be found that make certain what else takes very many primes.
    fewer = [few for few in FEW_PRIMES if many < few < needed]
    tried = fewer[0] if fewer and (by_relations or needed > most) else needed
    return tried if many < tried <= most else None


def _search(one, two, primes, parts):
    """Go through the texts by length, then by the alphabet, as far as they say more than those before.

    Returns the twins that kept them, the list of the texts that were kept, and the first one by which the programs are
    parted, where the search ends then, or None. If there is no function `parts`, no text parts them.
    """
    twins = Twins(one, two, primes)
    texts = [""]
    kept = [twins.first()]
    twins.keep(kept[0])
    if parts is not None and parts(""):
        return twins, texts, ""
    at = 0
    while at < len(texts):
        for letter in one.letters:
            text = texts[at] + letter
            states = twins.after(kept[at], letter)
            if not twins.keep(states):
                continue
            texts.append(text)
            kept.append(states)
            if parts is not None and parts(text):
                return twins, texts, text
        at += 1
    return twins, texts, None


def _kept_of(one, two, texts, primes):
    """Return the twins that kept the states behind some texts."""
    twins = Twins(one, two, primes)
    behind_texts = {}
    path = [twins.first()]
    last = ""
    # In the order of the alphabet, each text goes on from what it has in common with the one before.
    for text in sorted(texts):
        del path[_common_length(last, text) + 1:]
        for letter in text[len(path) - 1:]:
            path.append(twins.after(path[-1], letter))
        behind_texts[text] = path[-1]
        last = text
    # The shorter ones are kept first: so the numbers that must be exact are as small as can be.
    for text in sorted(behind_texts, key=len):
        twins.keep(behind_texts[text])
    return twins


def _common_length(one, two):
    """Return how many letters two texts have in common from their beginning on."""
    for at in range(min(len(one), len(two))):
        if one[at] != two[at]:
            return at
    return min(len(one), len(two))
