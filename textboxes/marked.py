"""Whether two programs tell the same with the same origins (point 21 of the document)."""

from textboxes.likes import alike
from textboxes.runs import told
from textboxes.searches import searched
from textboxes.signs import check_same_letters, parts_of

USUAL = "a"
MARKED = "b"


def unlike_origins(one, two):
    """Return a shortest text of which two programs do not tell the same with the same origins, or None."""
    check_same_letters(one.letters, two.letters)
    unlike = alike(one, two)
    first, second = MarkedProgram(one), MarkedProgram(two)

    def parts(text):
        if unlike is not None and len(text) >= len(unlike):
            return True
        return told(first, text) != told(second, text)

    # Where what is told is the same, origins are the same just if what each letter, or the end, puts stands at the same
    # indices. So it does not matter which letters are told; and it says no less if several letters are marked, and if
    # the end is marked as well.
    found = searched(first, second, parts)[2]
    if found is None or (unlike is not None and len(found) >= len(unlike)):
        return unlike
    return found.lower()


class MarkedProgram:
    """What a program tells of texts of which some letters are marked, as marked and other letters.

    Letters that are read marked are capital ones. What is put for them, and by the end, is told as marked.
    """

    def __init__(self, program):
        self._program = program
        self._letters = program.letters + program.letters.upper()
        self._boxes = program.boxes
        self._places = program.places

    @property
    def letters(self):
        """The letters, and the marked ones."""
        return self._letters

    @property
    def boxes(self):
        """The boxes, ascending."""
        return self._boxes

    @property
    def places(self):
        """The tuple of the names of the places, in order."""
        return self._places

    def move(self, place, letter):
        """Return the pair of the next place and the dict of the fillings, or None."""
        found = self._program.move(place, letter.lower())
        if found is None:
            return None
        target, fillings = found
        sign = MARKED if letter.isupper() else USUAL
        return target, {box: self._told_by(fillings[box], sign) for box in fillings}

    def end(self, place):
        """Return the filling that is the end of a place, or None."""
        end = self._program.end(place)
        return None if end is None else self._told_by(end, MARKED)

    def _told_by(self, filling, sign):
        """Return a filling with a sign in place of each letter."""
        parts = parts_of(filling, self._boxes)
        return "".join([part if part.isupper() else sign * len(part) for part in parts])
