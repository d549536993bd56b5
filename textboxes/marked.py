"""Whether two programs tell the same with the same origins (point 21 of the document)."""

from textboxes.likes import alike
from textboxes.runs import told
from textboxes.searches import searched
from textboxes.signs import check_same_letters, parts_of

USUAL = "a"
MARKED = "b"


def unlike_origins(one, two):
    """Return a shortest text of which two programs do not tell the same with the same origins, or None."""
    check_same_letters(one.letters, two.letters)
    unlike = alike(one, two)
    first, second = MarkedProgram(one), MarkedProgram(two)

    def parts(text):
        if unlike is not None and len(text) >= len(unlike):
            return True
        return told(first, text) != told(second, text)

    # Where what is told is the same, origins are the same just if what each letter, or the end, puts stands at the same
    # indices. So it does not matter which letters are told.
    found = searched(first, second, parts)[2]
    if found is None or (unlike is not None and len(found) >= len(unlike)):
        return unlike
    return found.lower()


class MarkedProgram:
    """What a program tells of texts of which no letter, or one letter, is marked, as marked and other letters.

    Marked letters that are read are capital ones. A place tells as well whether a marked letter was read.
    """

    def __init__(self, program):
        self._program = program
        self._letters = program.letters + program.letters.upper()
        self._boxes = program.boxes
        self._places = tuple([(place, is_behind) for is_behind in (False, True) for place in program.places])

    @property
    def letters(self):
        """The letters, and the marked ones."""
        return self._letters

    @property
    def boxes(self):
        """The boxes, ascending."""
        return self._boxes

    @property
    def places(self):
        """The tuple of the places, the first of which is where it begins."""
        return self._places

    def move(self, place, letter):
        """Return the pair of the next place and the dict of the fillings, or None."""
        name, is_behind = place
        is_marked = letter.isupper()
        found = None if is_behind and is_marked else self._program.move(name, letter.lower())
        if found is None:
            return None
        target, fillings = found
        sign = MARKED if is_marked else USUAL
        return (target, is_behind or is_marked), {box: self._told_by(fillings[box], sign) for box in fillings}

    def end(self, place):
        """Return the filling that is the end of a place, or None."""
        name, is_behind = place
        end = self._program.end(name)
        return None if end is None else self._told_by(end, USUAL if is_behind else MARKED)

    def _told_by(self, filling, sign):
        """Return a filling with a sign in place of each letter."""
        parts = parts_of(filling, self._boxes)
        return "".join([part if part.isupper() else sign * len(part) for part in parts])
