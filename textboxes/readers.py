"""Live readers (point 8 of the document)."""

from textboxes.errors import NoDeed
from textboxes.steps import Steps, check_text


class Reader:
    """Reads letters one behind another; what was read last can be undone, and read again."""

    def __init__(self, program):
        self._program = program
        self._steps = Steps(program)
        # What was read, and what was undone, the last ones last: pairs of a text and the state behind it.
        self._done = []
        self._undone = []

    @property
    def program(self):
        """The program."""
        return self._program

    def read(self, text):
        """Read a text at once, and return what is told then."""
        check_text(self._program, text)
        self._done.append((text, self._steps.behind(self._now(), text)))
        self._undone = []
        return self.told()

    def text(self):
        """Return what was read."""
        return "".join([deed[0] for deed in self._done])

    def state(self):
        """Return the state behind what was read, or None if it is refused before."""
        return self._steps.shown(self._now())

    def told(self):
        """Return what the program tells of what was read, or None if it refuses it."""
        return self._steps.told(self._now())

    def undo(self):
        """Undo what was read last, and return what is told then."""
        if not self._done:
            raise NoDeed()
        self._undone.append(self._done.pop())
        return self.told()

    def again(self):
        """Read again what was undone last, and return what is told then."""
        if not self._undone:
            raise NoDeed()
        self._done.append(self._undone.pop())
        return self.told()

    def _now(self):
        return self._done[-1][1] if self._done else self._steps.first()
