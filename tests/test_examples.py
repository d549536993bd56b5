"""The examples at the end of the document, as far as the modules for them are there."""

import unittest

from tests.made import backward, exchanging, plain, sorting
from textboxes.great import great_length, great_piece
from textboxes.likes import alike, enough, is_enough
from textboxes.makers import joined, told_by, turned
from textboxes.programs import Program
from textboxes.runs import behind, told


class Examples(unittest.TestCase):
    """The known programs of the document are made by the tests themselves until the package has them."""

    turn = Program.parse("letters ab\nboxes X\nplace on X\na on X=aX\nb on X=bX")

    def test_programs_and_runs(self):
        self.assertEqual(
            [told(self.turn, "aab"), behind(self.turn, "ab"), self.turn.move("on", "b")],
            ["baa", ("on", {"X": "ba"}), ("on", {"X": "bX"})],
        )

    def test_programs_that_tell_the_same(self):
        self.assertEqual(
            [self.turn == backward("ab"), alike(self.turn, backward("ab")), len(alike(self.turn, plain("ab"))),
             alike(plain("ab"), sorting("ab", "a"))],
            [True, None, 2, "ba"],
        )
        one, two = plain("a"), backward("a")
        self.assertEqual(
            [is_enough(one, two, enough(one, two)), is_enough(one, two, ["", "a"]), is_enough(one, two, [""])],
            [True, True, False],
        )

    def test_new_programs(self):
        self.assertEqual(
            [told(joined(self.turn, plain("ab")), "ab"), told(told_by(self.turn, {"a": "xy"}), "ab"),
             alike(turned(self.turn), plain("ab"))],
            ["baab", "bxy", None],
        )

    def test_great_texts(self):
        many = [("a", 10 ** 30), ("b", 1), ("ab", 10 ** 30)]
        self.assertEqual(
            [great_length(exchanging("ab", "b"), many),
             great_piece(exchanging("ab", "b"), many, 2 * 10 ** 30 - 2, 4)],
            [3000000000000000000000000000001, "abba"],
        )


if __name__ == "__main__":
    unittest.main()
