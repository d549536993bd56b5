"""The examples at the end of the document, as far as the modules for them are there."""

import unittest

from textboxes.programs import Program
from textboxes.runs import behind, told


class Examples(unittest.TestCase):
    def test_programs_and_runs(self):
        turn = Program.parse("letters ab\nboxes X\nplace on X\na on X=aX\nb on X=bX")
        self.assertEqual(
            [told(turn, "aab"), behind(turn, "ab"), turn.move("on", "b")],
            ["baa", ("on", {"X": "ba"}), ("on", {"X": "bX"})],
        )


if __name__ == "__main__":
    unittest.main()
