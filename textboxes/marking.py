"""The marks of states, and how moves lead from marks to marks (point 13 of the document).

A mark is kept as a pair of strings: the boxes whose widths are taken, ascending, and the box whose number is taken, or
the empty string.
"""

from itertools import combinations

from textboxes.signs import in_order, parts_of


def marks_of(boxes):
    """Return the list of the marks of some boxes, in the order in which they are told."""
    found = []
    for many in range(len(boxes) + 1):
        for chosen in combinations(boxes, many):
            found.append(("".join(chosen), ""))
            found.extend([("".join(chosen), box) for box in boxes if box not in chosen])
    return found


def terms_of(boxes, fillings, number, width):
    """Return how a move leads from marks to marks, by two functions for the numbers and the widths of texts.

    For each mark behind the move there is a list of terms: pairs of the factor and of the index of a mark ahead of it.
    """
    marks = marks_of(boxes)
    places = {mark: at for at, mark in enumerate(marks)}
    numbers = {}
    widths = {}
    for box in boxes:
        numbers[box], widths[box] = _box_terms(parts_of(fillings.get(box, ""), boxes), number, width)
    rows = []
    for chosen, box in marks:
        factor = 1
        carried = ""
        for one in chosen:
            by, inner = widths[one]
            factor = factor * by
            carried = carried + inner
        terms = [(1, "", "")] if box == "" else numbers[box]
        rows.append([(factor * by, places[(in_order(carried + behind), of)]) for by, behind, of in terms])
    return rows


def _box_terms(parts, number, width):
    """Return what the number of a filling, in parts, is the sum of, and what its width is the product of.

    The number is a list of a factor, the boxes whose widths are taken, and the box whose number is taken, or the empty
    string. The width is a pair of a factor and the boxes whose widths are taken.
    """
    numbers = []
    factor = 1
    behind = ""
    for part in parts[::-1]:
        if part.isupper():
            numbers.append((factor, behind, part))
            behind = behind + part
        else:
            numbers.append((number(part) * factor, behind, ""))
            factor = width(len(part)) * factor
    return numbers, (factor, behind)
