"""Points 20 and 21: whether two programs tell the same with the same origins."""

import random
import unittest

from tests.made import (
    Kit, plain_origins, program_of, small_program, texts_up_to, twin_of, with_a_place_twice, with_one_change,
    with_other_names,
)
from textboxes.errors import OtherLetters
from textboxes.known import backward, exchanging, halving, late, plain, sorting
from textboxes.likes import alike
from textboxes.makers import either, joined, led_by, told_by, turned, within
from textboxes.marked import unlike_origins
from textboxes.programs import Program
from textboxes.tables import Table

NOTHING = Program("ab", "", ["on"], {}, {})
NO_END = Program("ab", "X", ["on"], {("on", "a"): ("on", {"X": "Xa"}), ("on", "b"): ("on", {})}, {})


class Marked(Kit):
    def check(self, one, two, most=5):
        """Check a text by the origins of what is told of all short texts, in both directions."""
        unlike = [text for text in texts_up_to(one.letters, most) if plain_origins(one, text) != plain_origins(two, text)]
        found = unlike_origins(one, two)
        for text in [found, unlike_origins(two, one)]:
            if unlike:
                self.assertEqual(len(text), len(unlike[0]))
                self.assertIn(text, unlike)
            elif text is not None:
                self.assertGreater(len(text), most)
                self.assertNotEqual(plain_origins(one, text), plain_origins(two, text))
        return found

    def test_known_programs(self):
        self.assertEqual(unlike_origins(plain("a"), backward("a")), "aa")
        self.assertEqual(len(unlike_origins(plain("ab"), backward("ab"))), 2)
        programs = [plain("ab"), backward("ab"), exchanging("ab", "a"), exchanging("ab", "b"), sorting("ab", "a"),
                    halving("ab"), late("ab", "b")]
        for at, one in enumerate(programs):
            for two in programs[at:]:
                self.assertEqual(self.check(one, two) is None, one == two)
        for one in [plain("a"), backward("a"), sorting("a", "a"), late("a", "a"), halving("a"), exchanging("a", "a")]:
            for two in [plain("a"), backward("a"), exchanging("a", "a")]:
                self.check(one, two)

    def test_programs_that_refuse_everything(self):
        self.assertIsNone(unlike_origins(NOTHING, NO_END))
        self.assertIsNone(unlike_origins(NOTHING, NOTHING))
        self.assertEqual(unlike_origins(NOTHING, plain("ab")), "")
        self.assertEqual(unlike_origins(NO_END, Program("ab", "", ["on", "off"], {("on", "b"): ("off", {})}, {"off": ""})), "b")

    def test_no_boxes(self):
        one = Program("a", "", ["p", "q"], {("p", "a"): ("q", {}), ("q", "a"): ("p", {})}, {"p": "ab", "q": "ba"})
        self.assertIsNone(unlike_origins(one, with_other_names(one)))
        self.assertEqual(unlike_origins(one, Program("a", "", ["p"], {("p", "a"): ("p", {})}, {"p": "ab"})), "a")

    def test_letters_that_the_end_puts(self):
        one = Program("a", "X", ["p"], {("p", "a"): ("p", {"X": "a"})}, {"p": "Xa"})
        two = Program("a", "X", ["p"], {("p", "a"): ("p", {"X": "a"})}, {"p": "aX"})
        self.assertIsNone(alike(one, two))
        self.assertEqual(self.check(one, two), "a")
        three = Program("a", "XY", ["p"], {("p", "a"): ("p", {"X": "X", "Y": "a"})}, {"p": "YaX"})
        self.assertIsNone(alike(one, three))
        self.assertEqual(self.check(two, three), "a")
        self.assertEqual(self.check(one, three), None)
        # Only the end puts the letters that are told of the empty text.
        self.assertIsNone(unlike_origins(within(one, Table("a", ["s"], {}, ["s"])), within(two, Table("a", ["s"], {}, ["s"]))))

    def test_one_of_some_letters_has_another_origin(self):
        moves = {("p", "a"): ("q", {"X": "aa"}), ("q", "b"): ("r", {"X": "Xa"}), ("q", "a"): ("r", {"X": "aXa"})}
        one = Program("ab", "X", ["p", "q", "r"], moves, {"r": "X"})
        two = Program("ab", "X", ["p", "q", "r"], {**moves, ("q", "b"): ("r", {"X": "aX"})}, {"r": "X"})
        self.assertIsNone(alike(one, two))
        self.assertEqual(self.check(one, two), "ab")
        three = Program("ab", "X", ["p", "q", "r"], {**moves, ("q", "a"): ("r", {"X": "Xaa"})}, {"r": "X"})
        self.assertEqual(self.check(one, three), "aa")
        four = Program("ab", "XY", ["p", "q", "r"], {("p", "a"): ("q", {"X": "a", "Y": "a"}), ("q", "b"): ("r", {"X": "XYa"}),
                                                    ("q", "a"): ("r", {"Y": "aYXa"})}, {"r": "XY"})
        self.assertIsNone(self.check(one, four))

    def test_shorter_than_texts_of_which_unlike_texts_are_told(self):
        moves = {("p", "a"): ("p", {"X": "Xa"}), ("p", "b"): ("q", {"X": "X"}), ("q", "b"): ("r", {"X": "X"}),
                 ("r", "b"): ("s", {"X": "X"})}
        one = Program("ab", "X", ["p", "q", "r", "s"], moves, {"p": "X", "s": "Xc"})
        moves[("p", "a")] = ("p", {"X": "aX"})
        two = Program("ab", "X", ["p", "q", "r", "s"], moves, {"p": "X", "s": "Xd"})
        self.assertEqual(alike(one, two), "bbb")
        self.assertEqual(self.check(one, two), "aa")
        three = Program("ab", "X", ["p", "q", "r", "s"], moves, {"p": "X", "q": "b", "s": "Xd"})
        self.assertEqual(alike(one, three), "b")
        self.assertEqual(self.check(one, three), "b")

    def test_the_same_with_other_names_or_a_place_twice(self):
        chance = random.Random(100)
        for _ in range(60):
            program = small_program(chance, "abc"[:chance.randint(1, 3)], 3)
            self.assertIsNone(unlike_origins(program, with_other_names(program)))
            self.assertIsNone(unlike_origins(with_a_place_twice(chance, program), with_other_names(program)))
            self.check(program, with_one_change(chance, program), 4)

    def test_against_origins(self):
        chance = random.Random(101)
        only_origins_unlike = 0
        for _ in range(250):
            one = small_program(chance, "ab"[:chance.randint(1, 2)], 3)
            two = twin_of(chance, one)
            table = chance.choice([{}, {letter: "a" for letter in "abcxyz"}, {"a": "", "b": "ab", "x": "ab"}])
            self.check(told_by(one, table), told_by(two, table))
        # The same letters in another order: where all are told as the same letter, only origins differ.
        for _ in range(150):
            one = program_of(chance, "ab"[:chance.randint(1, 2)], "XY", chance.randint(1, 3))
            table = {letter: "a" for letter in "abcxyz"}
            one = told_by(one, table)
            two = turned(one) if chance.random() < 0.5 else turned(with_one_change(chance, turned(one)))
            found = self.check(one, two)
            unlike = alike(one, two)
            only_origins_unlike += found is not None and (unlike is None or len(found) < len(unlike))
        self.assertGreater(only_origins_unlike, 20)

    def test_made_programs(self):
        chance = random.Random(102)
        for _ in range(15):
            one, two = small_program(chance, "ab", 1), small_program(chance, "ab", 1)
            self.assertIsNone(unlike_origins(turned(joined(one, two)), joined(turned(two), turned(one))))
            self.assertIsNone(unlike_origins(turned(either(one, two)), either(turned(one), turned(two))))
            table = {"a": "xy", "x": "b"}
            self.assertIsNone(unlike_origins(told_by(joined(one, two), table), joined(told_by(one, table), told_by(two, table))))
            self.assertIsNone(unlike_origins(led_by(led_by(one, {"a": "ab", "b": ""}), {"c": "aa"}), led_by(one, {"c": "abab"})))
            self.check(joined(one, two), joined(two, one), 4)
        long = told_by(told_by(plain("a"), {"a": "a" * 100}), {"a": "a" * 100})
        self.assertIsNone(unlike_origins(long, turned(turned(long))))
        self.assertIsNone(alike(long, turned(long)))
        self.assertEqual(unlike_origins(long, turned(long)), "aa")

    def test_greatest_sizes(self):
        chance = random.Random(103)
        for boxes, places, letters in [(("XYZ", "XYZ"), (2, 5), "abcde"), (("XY", "XY"), (5, 5), "abc"), (("", "XYZ"), (3, 6), "a")]:
            one, two = [program_of(chance, letters, boxes[k], places[k]) for k in range(2)]
            self.check(one, two, 3)
            self.assertIsNone(unlike_origins(one, with_other_names(one)))

    def test_other_letters(self):
        for one, two, letter in [("ab", "bc", "a"), ("bc", "abc", "a"), ("ab", "abz", "z"), ("a", "b", "a")]:
            self.assertEqual(self.raised(OtherLetters, unlike_origins, plain(one), plain(two)).letter, letter)

    def test_by_name(self):
        self.assertEqual(unlike_origins(two=plain("a"), one=backward("a")), "aa")


if __name__ == "__main__":
    unittest.main()
