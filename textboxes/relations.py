"""Relations between the marks of two programs, by which what was found modulo a prime becomes certain.

A relation tells that a mark, times a number, is the sum of others, each times a number. It is found modulo a prime, as
far as its numbers are small; then it is checked with exact numbers that it holds behind the empty text, and that those
that hold behind a text make it hold behind each letter more. The marks of a row are counted through, those of the first
program ahead; relations are a dict from the index of the mark to the pair of its factor, and of the dict from the
indices of the others to their factors.
"""

from math import lcm

from textboxes.fields import combined, fraction_of, steps_of
from textboxes.marking import marks_of, terms_of
from textboxes.widths import number_of, width_of

MOST_LETTERS = 200000


def relations_of(spans, primes):
    """Return the relations that rows have in spans modulo several primes, or None if their numbers are not small."""
    pivots, columns = spans[0].pivots(), spans[0].columns()
    if not all([span.pivots() == pivots for span in spans]):
        return None
    tables = [span.residues() for span in spans]
    steps = steps_of(primes)
    modulus = steps[-1][0] * primes[-1]
    found = {}
    for at, column in enumerate(columns):
        fractions = {}
        for row, pivot in enumerate(pivots):
            residues = [table[row][at] for table in tables]
            if max(residues) > 0:
                fractions[pivot] = fraction_of(combined(residues, primes, steps), modulus)
                if fractions[pivot] is None:
                    return None
        found[column] = _whole(fractions)
    return found


def _whole(fractions):
    """Return the relation in which a mark is the sum of others, each times a fraction."""
    factor = 1
    for _, bottom in fractions.values():
        factor = lcm(factor, bottom)
    return factor, {at: top * (factor // bottom) for at, (top, bottom) in fractions.items()}


def hold(one, two, relations):
    """Tell whether it is certain that relations at all pairs of places hold behind all texts."""
    if _letters_of(one) + _letters_of(two) > MOST_LETTERS:
        return False
    row = [1 if box == "" else 0 for _, box in marks_of(one.boxes) + marks_of(two.boxes)]
    for at, (factor, others) in relations[(one.places[0], two.places[0])].items():
        if factor * row[at] != sum([by * row[other] for other, by in others.items()]):
            return False
    ahead = _exact_terms(one, 0)
    behind = _exact_terms(two, len(marks_of(one.boxes)))
    for pair, known in relations.items():
        for letter in one.letters:
            moves = [one.move(pair[0], letter), two.move(pair[1], letter)]
            if None in moves:
                continue
            terms = ahead[(pair[0], letter)] + behind[(pair[1], letter)]
            wanted = relations[(moves[0][0], moves[1][0])]
            if not all([_follows(known, _led_back(at, wanted[at], terms)) for at in wanted]):
                return False
    return True


def _letters_of(program):
    """Return how many letters the fillings of all moves have, or a few more."""
    moves = [program.move(place, letter) for place in program.places for letter in program.letters]
    return sum([len(filling) for move in moves if move is not None for filling in move[1].values()])


def _exact_terms(program, start):
    """Return the dict from pairs of a place and a letter to the terms of the move, its marks counted from a start."""
    found = {}
    for place in program.places:
        for letter in program.letters:
            move = program.move(place, letter)
            if move is not None:
                terms = terms_of(program.boxes, move[1], number_of, width_of)
                found[(place, letter)] = [[(by, at + start) for by, at in line] for line in terms]
    return found


def _led_back(at, relation, terms):
    """Return the dict from marks ahead of a move to their factors in a sum that is 0 just if a relation holds."""
    factor, others = relation
    weights = {other: -by for other, by in others.items()}
    weights[at] = factor
    found = {}
    for mark, weight in weights.items():
        for by, ahead in terms[mark]:
            found[ahead] = found.get(ahead, 0) + weight * by
    return found


def _follows(known, factors):
    """Tell whether a sum of marks with these factors is 0 because of known relations."""
    whole = 1
    for factor, _ in known.values():
        whole = lcm(whole, factor)
    found = {}
    for mark, by in factors.items():
        if mark not in known:
            found[mark] = found.get(mark, 0) + whole * by
            continue
        factor, others = known[mark]
        for other, weight in others.items():
            found[other] = found.get(other, 0) + by * (whole // factor) * weight
    return all([number == 0 for number in found.values()])
