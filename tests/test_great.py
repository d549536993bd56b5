"""Point 10: great texts."""

import random
import unittest

from tests.made import plainly_behind, plainly_told, some_program
from textboxes.errors import BadGreat, BadPiece, BoxError
from textboxes.great import great_length, great_letters, great_piece, great_place
from textboxes.known import backward, exchanging, halving, late, plain, sorting
from textboxes.makers import joined, led_by, told_by, turned
from textboxes.programs import Program

MOST = 10 ** 30
NOTHING = Program("ab", "", ["on"], {}, {})
MANY = [("a", MOST), ("b", 1), ("ab", MOST)]


class Great(unittest.TestCase):
    def raised(self, error, call, *things):
        with self.assertRaises(error) as caught:
            call(*things)
        self.assertIsInstance(caught.exception, BoxError)
        return caught.exception


class Told(Great):
    def test_place(self):
        self.assertEqual(great_place(exchanging("ab", "b"), [("a", MOST)]), "ahead")
        self.assertEqual(great_place(exchanging("ab", "b"), MANY), "behind")
        self.assertEqual(great_place(halving("ab"), [("aab", MOST)]), "take")
        self.assertEqual(great_place(halving("ab"), [("aab", MOST - 1)]), "leave")
        self.assertEqual(great_place(halving("ab"), [("aab", MOST), ("b", 3)]), "leave")

    def test_length(self):
        self.assertEqual(great_length(exchanging("ab", "b"), MANY), 3 * MOST + 1)
        self.assertEqual(great_length(halving("ab"), [("aab", MOST)]), 3 * MOST // 2)
        self.assertEqual(great_length(told_by(plain("ab"), {"a": "a" * 100, "b": ""}), MANY), 200 * MOST)

    def test_letters(self):
        found = great_letters(exchanging("ab", "b"), MANY)
        self.assertEqual(found, {"a": 2 * MOST, "b": MOST + 1})
        self.assertEqual(list(found), ["a", "b"])
        program = Program("a", "X", ["on"], {("on", "a"): ("on", {"X": "zXy"})}, {"on": "bXa"})
        self.assertEqual(list(great_letters(program, [("a", MOST)]).items()), [("a", 1), ("b", 1), ("y", MOST), ("z", MOST)])
        self.assertEqual(great_letters(program, []), {"a": 1, "b": 1})
        self.assertEqual(great_letters(plain("a"), []), {})
        self.assertEqual(great_letters(plain("ab"), [("b", 3), ("a", 0)]), {"b": 3})

    def test_piece(self):
        self.assertEqual(great_piece(exchanging("ab", "b"), MANY, 2 * MOST - 2, 4), "abba")
        self.assertEqual(great_piece(exchanging("ab", "b"), MANY, 0, 4), "abab")
        self.assertEqual(great_piece(sorting("ab", "a"), [("ba", MOST)], MOST - 500, 1000), "a" * 500 + "b" * 500)
        self.assertEqual(great_piece(backward("ab"), [("ab", MOST)], 1, 3), "aba")

    def test_end_of_what_is_told(self):
        length = 3 * MOST + 1
        program = exchanging("ab", "b")
        self.assertEqual(great_piece(program, MANY, length - 3, 3), "aaa")
        self.assertEqual(great_piece(program, MANY, length, 0), "")
        self.assertEqual(great_piece(program, MANY, length - 1000, 1000), "a" * 1000)
        self.assertEqual(self.raised(BadPiece, great_piece, program, MANY, length - 3, 4).number, length + 1)
        self.assertEqual(self.raised(BadPiece, great_piece, program, MANY, length + 1, 0).number, length + 1)
        self.assertEqual(self.raised(BadPiece, great_piece, program, MANY, 10 ** 40, 7).number, 10 ** 40 + 7)
        self.assertEqual(great_piece(plain("a"), [], 0, 0), "")
        self.assertEqual(self.raised(BadPiece, great_piece, plain("a"), [], 0, 1).number, 1)

    def test_empty_great_text(self):
        for parts in [[], (), [("", MOST)], [("a", 0)], [("ab", 0), ("", 0), ("b", 0)]]:
            self.assertEqual(great_place(late("ab", "b"), parts), "no")
            self.assertEqual(great_length(late("ab", "b"), parts), 0)
            self.assertEqual(great_letters(late("ab", "b"), parts), {})
            self.assertEqual(great_piece(late("ab", "b"), parts, 0, 0), "")

    def test_refused(self):
        once = Program("ab", "X", ["on", "off"], {("on", "a"): ("off", {"X": "aX"})}, {"off": "X"})
        for parts in [[("a", 2)], [("b", 1)], [("a", MOST)], [("ab", 1)], [("a", 1), ("a", 1)], [("b", MOST), ("a", 0)]]:
            self.assertIsNone(great_place(once, parts))
            self.assertIsNone(great_length(once, parts))
            self.assertIsNone(great_letters(once, parts))
            self.assertIsNone(great_piece(once, parts, 0, 0))
            self.assertIsNone(great_piece(once, parts, MOST, 1000))
        self.assertEqual(great_length(once, [("a", 1), ("b", 0)]), 1)
        # Behind the empty text there is a place, but no end.
        self.assertEqual(great_place(once, [("b", 0)]), "on")
        self.assertIsNone(great_length(once, []))
        self.assertIsNone(great_letters(once, []))
        self.assertIsNone(great_piece(once, [], 3, 3))
        self.assertEqual(great_place(NOTHING, []), "on")
        self.assertIsNone(great_length(NOTHING, []))

    def test_boxes_that_are_lost(self):
        program = Program.parse("letters ab\nboxes XY\nplace on XY\na on X=Xa Y=Y\nb off Y=XY\nplace off YX\nb on X=Y")
        self.assertEqual(great_length(program, [("a", MOST), ("b", 1)]), MOST)
        self.assertEqual(great_length(program, [("a", MOST), ("b", 2), ("a", 5)]), MOST + 5)
        self.assertIsNone(great_length(program, [("ab", 2)]))
        self.assertEqual(great_length(program, [("abb", MOST)]), MOST)

    def test_by_name(self):
        self.assertEqual(great_place(program=plain("a"), parts=[("a", 1)]), "on")
        self.assertEqual(great_length(parts=[("a", 1)], program=plain("a")), 1)
        self.assertEqual(great_letters(program=plain("a"), parts=[("a", 1)]), {"a": 1})
        self.assertEqual(great_piece(program=plain("a"), parts=[("a", 9)], first=2, length=3), "aaa")


class Runs(Great):
    def test_against_the_words(self):
        chance = random.Random(16)
        for _ in range(150):
            program = some_program(chance)
            parts = []
            for _ in range(chance.randrange(4)):
                text = "".join(chance.choices(program.letters, k=chance.randrange(4)))
                parts.append((text, chance.choice([0, 1, 2, 3, 7, 12, 30])))
            text = "".join(text * many for text, many in parts)
            state, found = plainly_behind(program, text), plainly_told(program, text)
            self.assertEqual(great_place(program, parts), None if state is None else state[0])
            if found is None:
                self.assertIsNone(great_length(program, parts))
                self.assertIsNone(great_letters(program, parts))
                self.assertIsNone(great_piece(program, parts, 0, 0))
                continue
            self.assertEqual(great_length(program, parts), len(found))
            letters = [(sign, found.count(sign)) for sign in sorted(set(found))]
            self.assertEqual(list(great_letters(program, parts).items()), letters)
            for _ in range(4):
                first = chance.randint(0, len(found))
                length = chance.randint(0, min(1000, len(found) - first))
                self.assertEqual(great_piece(program, parts, first, length), found[first:first + length])

    def test_great_numbers_are_many_small_ones(self):
        chance = random.Random(17)
        for _ in range(60):
            program = some_program(chance)
            text = "".join(chance.choices(program.letters, k=chance.randint(1, 4)))
            cut = chance.randrange(MOST)
            one, two = [(text, MOST), ("", 5)], [(text, cut), (text * 2, (MOST - cut) // 2), (text, (MOST - cut) % 2)]
            self.assertEqual(great_place(program, one), great_place(program, two))
            length = great_length(program, one)
            self.assertEqual(length, great_length(program, two))
            self.assertEqual(great_letters(program, one), great_letters(program, two))
            if length is not None:
                self.assertEqual(sum(great_letters(program, one).values()), length)
                first = chance.randint(0, length)
                many = min(1000, length - first)
                self.assertEqual(great_piece(program, one, first, many), great_piece(program, two, first, many))

    def test_many_parts_and_long_texts(self):
        parts = [("ab" * 3 + "b" * (k % 7), MOST - k) for k in range(500)]
        self.assertEqual(great_length(plain("ab"), parts), sum(len(text) * many for text, many in parts))
        self.assertEqual(great_piece(backward("ab"), parts, 0, 8), "bbbababa")
        self.assertEqual(great_length(halving("ab"), [("ab" * 5000, MOST)]), 5000 * MOST)

    def test_programs_that_functions_return(self):
        program = led_by(told_by(told_by(plain("ab"), {"a": "c" * 100}), {"c": "de" * 50}), {"a": "ab" * 50, "b": "a"})
        self.assertEqual(great_length(program, [("a", MOST)]), 50 * 10001 * MOST)
        self.assertEqual(great_letters(turned(program), [("b", MOST)]), {"d": 5000 * MOST, "e": 5000 * MOST})
        both = joined(program, turned(program))
        self.assertEqual(great_piece(both, [("b", MOST)], 10000 * MOST - 4, 8), "dedeeded")
        self.assertEqual(great_place(both, [("b", MOST)]), both.places[0])


class Wrong(Great):
    def calls(self, parts):
        return [
            (great_place, plain("ab"), parts), (great_length, plain("ab"), parts), (great_letters, plain("ab"), parts),
            (great_piece, plain("ab"), parts, 0, 0),
        ]

    def test_no_list(self):
        for parts in [None, 3, "ab", {("a", 1): 1}, {"a": 1}, True]:
            for call in self.calls(parts):
                self.assertEqual(self.raised(BadGreat, *call).index, 0)

    def test_wrong_parts(self):
        wrong = [
            None, 3, "ab", ("a",), ("a", 1, 1), [], ("c", 1), ("A", 1), ("a b", 1), (1, 1), (None, 1), (["a"], 1),
            (b"a", 1), ("a", -1), ("a", MOST + 1), ("a", 1.0), ("a", True), ("a", False), ("a", None), ("a", "1"),
            ("c", -1), {"a": 1, "b": 2},
        ]
        for part in wrong:
            for call in self.calls([("a", 1), ["b", 2], part, None]):
                self.assertEqual(self.raised(BadGreat, *call).index, 2)
            self.assertEqual(self.raised(BadGreat, great_length, NOTHING, [("a", 1), part]).index, 1)

    def test_lists_for_pairs(self):
        self.assertEqual(great_length(plain("ab"), (["a", 2], ("b", 3))), 5)

    def test_wrong_first(self):
        for first in [-1, -MOST, None, "0", 1.0, True, False, [0]]:
            for length in [0, -1, None]:
                found = self.raised(BadPiece, great_piece, plain("a"), [("a", 5)], first, length).number
                self.assertTrue(found is first or found == first)
            self.assertEqual(self.raised(BadGreat, great_piece, plain("a"), [("b", 5)], first, 0).index, 0)
            with self.assertRaises(BadPiece):
                great_piece(NOTHING, [], first, 0)

    def test_wrong_length(self):
        for length in [-1, 1001, None, "0", 1.0, True, False]:
            found = self.raised(BadPiece, great_piece, plain("a"), [("a", 5)], 9, length).number
            self.assertTrue(found is length or found == length)
            with self.assertRaises(BadPiece):
                great_piece(NOTHING, [], 0, length)

    def test_parts_may_be_changed(self):
        part = ["a", 3]
        parts = [part, ("b", 1)]
        letters = great_letters(plain("ab"), parts)
        letters["a"] = 0
        self.assertEqual(great_letters(plain("ab"), parts), {"a": 3, "b": 1})
        self.assertEqual(parts, [["a", 3], ("b", 1)])
        part[1] = 4
        self.assertEqual(great_letters(plain("ab"), parts), {"a": 4, "b": 1})


if __name__ == "__main__":
    unittest.main()
