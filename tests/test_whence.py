"""Point 20: the origins of the letters of what is told."""

import random
import unittest

from tests.made import (
    Kit, plain_origins, put_together, small_program, small_table, some_program, texts_up_to,
)
from textboxes.errors import BadGreat, BadPiece, NotLetter
from textboxes.great import great_length
from textboxes.known import backward, exchanging, halving, late, plain, sorting
from textboxes.makers import either, joined, led_by, told_by, turned, within
from textboxes.programs import Program
from textboxes.runs import told
from textboxes.whence import great_origin, origins

MOST = 10 ** 30
NOTHING = Program("ab", "", ["on"], {}, {})
MANY = [("a", MOST), ("b", 1), ("ab", MOST)]


def only_origins(program, text):
    pairs = plain_origins(program, text)
    return None if pairs is None else [origin for _, origin in pairs]


class Origins(Kit):
    def test_known_programs(self):
        self.assertEqual(origins(backward("ab"), "ab"), [1, 0])
        self.assertEqual(origins(plain("ab"), "abba"), [0, 1, 2, 3])
        self.assertEqual(origins(exchanging("ab", "b"), "abaa"), [2, 3, 4, 0])
        self.assertEqual(origins(sorting("ab", "b"), "abab"), [1, 3, 0, 2])
        self.assertEqual(origins(halving("ab"), "ababa"), [0, 2, 4])
        self.assertEqual(origins(late("ab", "b"), "aa"), [])
        self.assertEqual(origins(late("ab", "b"), "aab"), [0, 1, 2])

    def test_refused_and_empty_texts(self):
        self.assertIsNone(origins(NOTHING, ""))
        self.assertIsNone(origins(NOTHING, "ab"))
        self.assertIsNone(origins(exchanging("ab", "b"), "aa"))
        self.assertEqual(origins(plain("ab"), ""), [])

    def test_letters_that_the_end_puts(self):
        program = Program("a", "X", ["on"], {("on", "a"): ("on", {"X": "xXyz"})}, {"on": "pqXr"})
        self.assertEqual(origins(program, ""), [0, 0, 0])
        self.assertEqual(origins(program, "a"), [1, 1, 0, 0, 0, 1])
        self.assertEqual(origins(program, "aa"), [2, 2, 1, 0, 0, 0, 1, 1, 2])

    def test_from_box_to_box(self):
        moves = {("p", "a"): ("p", {"X": "Yx", "Y": "Zy", "Z": "X"}), ("p", "b"): ("p", {"Y": "XzY"})}
        program = Program("ab", "XYZ", ["p"], moves, {"p": "ZYX"})
        self.assertEqual(told(program, "aabaa"), "yxzyxyyx")
        self.assertEqual(origins(program, "aabaa"), only_origins(program, "aabaa"))

    def test_against_the_words(self):
        chance = random.Random(90)
        for _ in range(150):
            program = some_program(chance)
            for text in texts_up_to(program.letters, 3) + ["".join(chance.choices(program.letters, k=20))]:
                found = origins(program, text)
                self.assertEqual(found, only_origins(program, text))
                self.assertEqual(None if found is None else len(found), None if told(program, text) is None
                                 else len(told(program, text)))

    def test_long_texts(self):
        text = "ab" * 5000
        self.assertEqual(origins(plain("ab"), text), list(range(10000)))
        self.assertEqual(origins(backward("ab"), text), list(range(10000))[::-1])
        self.assertEqual(origins(sorting("ab", "b"), text), list(range(1, 10000, 2)) + list(range(0, 10000, 2)))
        program = Program("ab", "XYZ", ["on"], {
            ("on", "a"): ("on", {"X": "a" * 100 + "Y", "Y": "Z" + "b" * 100, "Z": "X"}), ("on", "b"): ("on", {"X": "XYZ"})
        }, {"on": "ZXY"})
        found = origins(program, "aab" * 3000)
        self.assertEqual(len(found), len(told(program, "aab" * 3000)))
        self.assertEqual(set(found), {at for at in range(9000) if at % 3 != 2})

    def test_wrong_texts(self):
        for wrong in ["c", "abA", "ab ", "a\n", "cd"]:
            sign = [one for one in wrong if one not in "ab"][0]
            self.assertEqual(self.raised(NotLetter, origins, plain("ab"), wrong).letter, sign)
            self.assertEqual(self.raised(NotLetter, origins, NOTHING, wrong).letter, sign)
        for wrong in [None, 1, ["a"], b"a", ("a", "b"), {}]:
            self.assertEqual(self.raised(NotLetter, origins, plain("ab"), wrong).letter, wrong)

    def test_lists_are_new(self):
        origins(plain("a"), "aa").clear()
        self.assertEqual(origins(text="aa", program=plain("a")), [0, 1])


class MadePrograms(Kit):
    """Which origins the letters have that made programs tell, by those of the elder programs."""

    def same(self, program, texts, expected):
        for text in texts:
            self.assertEqual(origins(program, text), expected(text), text)

    def test_turned(self):
        chance = random.Random(91)
        for _ in range(60):
            program = some_program(chance)

            def expected(text):
                found = only_origins(program, text)
                return None if found is None else found[::-1]

            self.same(turned(program), texts_up_to(program.letters, 3), expected)

    def test_told_by_a_letter_table(self):
        chance = random.Random(92)
        for _ in range(60):
            program = some_program(chance)
            table = {sign: chance.choice(["", "a", "xyz", "bb"]) for sign in "abcxyz" if chance.random() < 0.6}

            def expected(text):
                pairs = plain_origins(program, text)
                return None if pairs is None else [at for sign, at in pairs for _ in table.get(sign, sign)]

            self.same(told_by(program, table), texts_up_to(program.letters, 3), expected)

    def test_led_by_a_letter_table(self):
        chance = random.Random(93)
        for _ in range(80):
            program = small_program(chance, "ab", 3)
            table = {letter: chance.choice(["", "a", "ba", "aab"]) for letter in "abz"[:chance.randint(1, 3)]}

            def expected(text):
                found = only_origins(program, put_together(text, table))
                reads = [index for index, letter in enumerate(text) for _ in table[letter]] + [len(text)]
                return None if found is None else [reads[at] for at in found]

            self.same(led_by(program, table), texts_up_to(table, 4), expected)

    def test_two_programs(self):
        chance = random.Random(94)
        for _ in range(60):
            one, two = small_program(chance, "ab"), small_program(chance, "ab")

            def both(text):
                first, second = only_origins(one, text), only_origins(two, text)
                return None if first is None or second is None else first + second

            def first_or_second(text):
                first = only_origins(one, text)
                return only_origins(two, text) if first is None else first

            self.same(joined(one, two), texts_up_to("ab", 4), both)
            self.same(either(one, two), texts_up_to("ab", 4), first_or_second)

    def test_within_a_table(self):
        chance = random.Random(95)
        for _ in range(60):
            program, table = small_program(chance, "ab", 3), small_table(chance, "ab", 3)
            self.same(within(program, table), texts_up_to("ab", 4),
                      lambda text: only_origins(program, text) if table.takes(text) else None)


class Great(Kit):
    def test_known_programs(self):
        self.assertEqual(great_origin(backward("ab"), [("ab", MOST)], 0), 2 * MOST - 1)
        self.assertEqual(great_origin(backward("ab"), [("ab", MOST)], 2 * MOST - 1), 0)
        self.assertEqual(great_origin(plain("ab"), MANY, MOST + 7), MOST + 7)
        # The sign that the end of the exchanging program puts stands behind 2 * MOST letters.
        for index, expected in [(0, MOST + 1), (2 * MOST - 1, 3 * MOST), (2 * MOST, 3 * MOST + 1), (2 * MOST + 1, 0),
                                (3 * MOST, MOST - 1)]:
            self.assertEqual(great_origin(exchanging("ab", "b"), MANY, index), expected)
        self.assertEqual(great_origin(sorting("ab", "b"), MANY, 0), MOST)
        self.assertEqual(great_origin(sorting("ab", "b"), MANY, 3), MOST + 6)
        self.assertEqual(great_origin(sorting("ab", "b"), MANY, MOST + 1), 0)
        self.assertEqual(great_origin(halving("ab"), [("aab", MOST)], 10 ** 29), 2 * 10 ** 29)

    def test_last_index_and_the_next_one(self):
        for program in [plain("ab"), backward("ab"), exchanging("ab", "b"), sorting("ab", "a"), halving("ab"), late("ab", "b")]:
            length = great_length(program, MANY)
            self.assertIsInstance(great_origin(program, MANY, length - 1), int)
            for index in [length, length + 1, 10 ** 40]:
                self.assertEqual(self.raised(BadPiece, great_origin, program, MANY, index).number, index)
        for parts in [[], [("a", 0)], [("", MOST), ("ab", 0)]]:
            self.assertEqual(self.raised(BadPiece, great_origin, plain("ab"), parts, 0).number, 0)
        self.assertEqual(great_origin(Program("a", "", ["on"], {}, {"on": "xy"}), [], 1), 0)

    def test_refused(self):
        for index in [0, 1, 10 ** 50]:
            self.assertIsNone(great_origin(NOTHING, [("a", 1)], index))
            self.assertIsNone(great_origin(NOTHING, [], index))
            self.assertIsNone(great_origin(exchanging("ab", "b"), [("a", MOST)], index))

    def test_boxes_that_are_exchanged(self):
        moves = {("p", "a"): ("q", {"X": "Yx", "Y": "yX"}), ("q", "a"): ("r", {"X": "Xz", "Y": "Y"}),
                 ("r", "a"): ("p", {"X": "zY", "Y": "Xxx"}), ("p", "b"): ("p", {"X": "XY"})}
        program = Program("ab", "XY", ["p", "q", "r"], moves, {"p": "XwY", "q": "YX", "r": "XY"})
        for many in [100, 101, 102]:
            expected = only_origins(program, "a" * many)
            self.assertEqual([great_origin(program, [("a", many)], at) for at in range(len(expected))], expected)
        self.assertEqual(great_origin(program, [("aaa", MOST), ("b", 1)], great_length(program, [("aaa", MOST)]) - 1),
                         3 * MOST + 1)

    def test_against_origins(self):
        chance = random.Random(96)
        for _ in range(300):
            program = some_program(chance) if chance.random() < 0.3 else small_program(chance, "ab", 3)
            parts = [("".join(chance.choices(program.letters, k=chance.randrange(4))), chance.randrange(40))
                     for _ in range(chance.randrange(4))]
            text = "".join(letters * many for letters, many in parts)
            expected = origins(program, text)
            self.assertEqual(expected, only_origins(program, text))
            if expected is None:
                self.assertIsNone(great_origin(program, parts, 0))
                continue
            for index in {0, len(expected) // 2, len(expected) - 1, chance.randrange(len(expected) + 1)}:
                if 0 <= index < len(expected):
                    self.assertEqual(great_origin(program, parts, index), expected[index])
            self.assertEqual(self.raised(BadPiece, great_origin, program, parts, len(expected)).number, len(expected))

    def test_long_texts_very_often(self):
        boxes = "UVWXYZ"
        places = [f"p{sign}" for sign in "abcdefghij"]
        moves = {}
        for at, place in enumerate(places):
            moves[(place, "a")] = (places[(at + 1) % 10], {"U": "aV", "V": "UWb", "X": "YcX", "Z": "bZ"})
            moves[(place, "b")] = (places[(at + 3) % 10], {"U": "Z", "W": "UbX", "Z": "aVcYW"})
            moves[(place, "c")] = (place, {box: box for box in boxes} if at % 2 == 0 else {"U": "ZYX", "X": "WcVU"})
        program = Program("abc", boxes, places, moves, {place: "UVWXYZz" for place in places})
        text = "".join(random.Random(97).choices("abc", k=9999)) + "a"
        length = great_length(program, [(text, MOST)])
        self.assertEqual(great_origin(program, [(text, MOST)], length - 1), 10000 * MOST)
        self.assertEqual(great_origin(program, [(text, MOST)], 0), 10000 * MOST - 1)
        self.assertLess(great_origin(program, [(text, MOST)], length - 2), 10000 * MOST)
        expected = origins(program, text * 3)
        for index in [0, 1, len(expected) // 3, len(expected) // 2, len(expected) - 1]:
            self.assertEqual(great_origin(program, [[text, 3], ["", MOST]], index), expected[index])

    def test_made_programs(self):
        long = told_by(told_by(plain("ab"), {"a": "ab" * 50, "b": "b" * 100}), {"a": "c" * 100, "b": "d" * 100})
        self.assertEqual(great_origin(long, MANY, 10 ** 4 * (MOST + 5) - 1), MOST + 4)
        twice = joined(plain("ab"), turned(plain("ab")))
        self.assertEqual(great_origin(twice, MANY, 3 * MOST + 1), 3 * MOST)
        self.assertEqual(great_origin(twice, MANY, 6 * MOST + 1), 0)
        led = led_by(exchanging("ab", "b"), {"c": "aab", "d": ""})
        self.assertEqual(great_origin(led, [("cd", MOST)], 3 * MOST - 1), 0)
        self.assertEqual(great_origin(led, [("cd", MOST)], 3 * MOST - 3), 2 * MOST)
        self.assertEqual(great_origin(led, [("cd", MOST)], 3 * MOST - 4), 2 * MOST - 2)

    def test_wrong_parts(self):
        for wrong in [None, 3, "ab", {"a": 1}, {("a", 1)}]:
            self.assertEqual(self.raised(BadGreat, great_origin, plain("ab"), wrong, -1).index, 0)
        for wrong in [None, "a", ("a",), ("a", 1, 1), ("c", 1), ("A", 0), (b"a", 1), ("a", -1), ("a", MOST + 1), ("a", True),
                      ("a", 1.0), ("a", "1"), ["a", None]]:
            for index in [0, -1, None]:
                self.assertEqual(self.raised(BadGreat, great_origin, plain("ab"), [("a", 1), wrong, 3], index).index, 1)
                self.assertEqual(self.raised(BadGreat, great_origin, NOTHING, [wrong, ("a", 1), 3], index).index, 0)

    def test_wrong_indices(self):
        for wrong in [-1, -MOST, None, True, False, "0", 0.0, [0], (), object()]:
            for program in [plain("ab"), NOTHING]:
                self.assertIs(self.raised(BadPiece, great_origin, program, MANY, wrong).number, wrong)

    def test_by_name_and_parts_stay(self):
        parts = [["ab", 2], ("b", 1)]
        self.assertEqual(great_origin(index=4, parts=parts, program=backward("ab")), 0)
        self.assertEqual(great_origin(index=4, parts=tuple(parts), program=backward("ab")), 0)
        self.assertEqual(parts, [["ab", 2], ("b", 1)])


if __name__ == "__main__":
    unittest.main()
