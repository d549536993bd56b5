"""The errors of the package.

No error makes a message of its fields, because a field may be any object, also one that cannot be shown.
"""


class BoxError(ValueError):
    """What all errors of the package have as their base."""


class BadProgram(BoxError):
    """A part of a program is not right."""

    def __init__(self, part):
        self.part = part


class BadText(BoxError):
    """A line of the text of a program cannot stand where it stands."""

    def __init__(self, line):
        self.line = line


class NotLetter(BoxError):
    """A sign of a text is not a letter of the program, or an object is not a text at all."""

    def __init__(self, letter):
        self.letter = letter


class BadLetters(BoxError):
    """A letter table is not right at a letter."""

    def __init__(self, letter):
        self.letter = letter


class OtherLetters(BoxError):
    """Only one of two has a letter that both must have."""

    def __init__(self, letter):
        self.letter = letter


class TooMany(BoxError):
    """A program would have too many boxes or places."""

    def __init__(self, what):
        self.what = what


class BadTable(BoxError):
    """A part of a table is not right."""

    def __init__(self, place):
        self.place = place


class BadBox(BoxError):
    """An object is not a box of the program."""

    def __init__(self, box):
        self.box = box


class BadWorths(BoxError):
    """A dict of worths is not right at a letter."""

    def __init__(self, letter):
        self.letter = letter


class BadNumber(BoxError):
    """An object is not a number of letters that can be asked about."""

    def __init__(self, number):
        self.number = number


class BadGreat(BoxError):
    """A part of a great text is not right."""

    def __init__(self, index):
        self.index = index


class BadPiece(BoxError):
    """A number does not tell a piece of what is told."""

    def __init__(self, number):
        self.number = number


class NoDeed(BoxError):
    """There is nothing to undo, or nothing to read again."""

    def __init__(self):
        pass
