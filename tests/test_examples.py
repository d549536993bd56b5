"""The examples at the end of the document."""

import unittest

from textboxes.gaps import gap
from textboxes.great import great_length, great_piece
from textboxes.known import backward, exchanging, plain, sorting
from textboxes.likes import alike, enough, is_enough
from textboxes.makers import joined, told_by, turned
from textboxes.marked import unlike_origins
from textboxes.programs import Program
from textboxes.runs import behind, told
from textboxes.whence import great_origin, origins


class Examples(unittest.TestCase):
    turn = Program.parse("letters ab\nboxes X\nplace on X\na on X=aX\nb on X=bX")

    def test_programs_and_runs(self):
        self.assertEqual(
            [told(self.turn, "aab"), behind(self.turn, "ab"), self.turn.move("on", "b")],
            ["baa", ("on", {"X": "ba"}), ("on", {"X": "bX"})],
        )

    def test_programs_that_tell_the_same(self):
        self.assertEqual(
            [self.turn == backward("ab"), alike(self.turn, backward("ab")), len(alike(self.turn, plain("ab"))),
             alike(plain("ab"), sorting("ab", "a"))],
            [True, None, 2, "ba"],
        )
        one, two = plain("a"), backward("a")
        self.assertEqual(
            [is_enough(one, two, enough(one, two)), is_enough(one, two, ["", "a"]), is_enough(one, two, [""])],
            [True, True, False],
        )

    def test_new_programs(self):
        self.assertEqual(
            [told(joined(self.turn, plain("ab")), "ab"), told(told_by(self.turn, {"a": "xy"}), "ab"),
             alike(turned(self.turn), plain("ab"))],
            ["baab", "bxy", None],
        )

    def test_great_texts(self):
        many = [("a", 10 ** 30), ("b", 1), ("ab", 10 ** 30)]
        self.assertEqual(
            [great_length(exchanging("ab", "b"), many),
             great_piece(exchanging("ab", "b"), many, 2 * 10 ** 30 - 2, 4)],
            [3000000000000000000000000000001, "abba"],
        )

    def test_origins(self):
        self.assertEqual(
            [origins(backward("ab"), "ab"), great_origin(backward("ab"), [("ab", 10 ** 30)], 0),
             unlike_origins(plain("a"), backward("a"))],
            [[1, 0], 1999999999999999999999999999999, "aa"],
        )

    def test_gaps(self):
        self.assertEqual(
            [gap(plain("ab"), sorting("ab", "a")), gap(joined(plain("a"), plain("a")), plain("a"))[0]],
            [("most", 0, ""), "endless"],
        )


if __name__ == "__main__":
    unittest.main()
