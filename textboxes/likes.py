"""Whether two programs tell the same of all texts (points 11 to 14 of the document)."""

from textboxes.marking import marks_of
from textboxes.runs import behind, told
from textboxes.searches import reaches, searched
from textboxes.signs import check_same_letters
from textboxes.widths import number_of, width_of


def marks(program, text):
    """Return the tuple of the place and the list of the marks of the state to which a text leads, or None."""
    state = behind(program, text)
    if state is None:
        return None
    place, texts = state
    widths = {box: width_of(len(texts[box])) for box in texts}
    numbers = {box: number_of(texts[box]) for box in texts}
    found = []
    for chosen, box in marks_of(program.boxes):
        mark = 1 if box == "" else numbers[box]
        for one in chosen:
            mark = mark * widths[one]
        found.append(mark)
    return place, found


def alike(one, two):
    """Return a shortest text of which two programs do not tell the same, or None if they are alike."""
    check_same_letters(one.letters, two.letters)
    return searched(one, two, lambda text: told(one, text) != told(two, text))[2]


def enough(one, two):
    """Return a list of texts that is enough for two programs."""
    check_same_letters(one.letters, two.letters)
    return searched(one, two)[1]


def is_enough(one, two, texts):
    """Tell whether a list of texts is enough for two programs."""
    check_same_letters(one.letters, two.letters)
    if "" not in texts:
        return False
    # What is a sum of rows stays one behind each letter. So a list with the empty text is enough just if at each pair
    # of places as many of its rows are no sums of others as there are such rows of all texts.
    return reaches(one, two, texts, searched(one, two)[0].ranks())
