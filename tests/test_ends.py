"""Point 16: which of the texts that a program tells tables take."""

import random
import unittest

from tests.made import (
    Kit, in_shape_of_least, plainly_told, program_of, shortest_of, small_program, small_table, texts_up_to,
)
from textboxes.ends import not_always, told_at_all, where
from textboxes.known import backward, exchanging, halving, late, plain, sorting
from textboxes.makers import either, joined, led_by, told_by, turned, within
from textboxes.programs import Program
from textboxes.tables import Table, are_alike

NOTHING = Program("ab", "", ["on"], {}, {})
NO_END = Program("ab", "X", ["on"], {("on", "a"): ("on", {"X": "Xa"}), ("on", "b"): ("on", {})}, {})
EVERYTHING = Table("ab", ["on"], {("on", "a"): "on", ("on", "b"): "on"}, ["on"])
NO_TEXT = Table("ab", ["on"], {("on", "a"): "on"}, [])
EMPTY_TEXT = Table("ab", ["on"], {}, ["on"])
# Texts that end with b.
ENDS_WITH_B = Table("ab", ["s", "t"], {("s", "a"): "s", ("s", "b"): "t", ("t", "a"): "s", ("t", "b"): "t"}, ["t"])
NONE = Table("ab", ["a"], {}, [])
ALL = EVERYTHING.least()


class Ends(Kit):
    def least(self, table, letters):
        self.assertEqual(table.letters, letters)
        self.assertTrue(in_shape_of_least(table))
        self.assertEqual(table, table.least())

    def check(self, program, table, most=5):
        """Check both functions by what is told of all short texts."""
        found = where(program, table)
        self.least(found, program.letters)
        unlike = []
        for text in texts_up_to(program.letters, most):
            words = plainly_told(program, text)
            self.assertEqual(found.takes(text), words is not None and table.takes(words), text)
            if words is not None and not table.takes(words):
                unlike.append(text)
        first = not_always(program, table)
        if unlike:
            self.assertEqual(first, shortest_of(unlike))
        elif first is not None:
            self.assertGreater(len(first), most)
            self.assertFalse(table.takes(plainly_told(program, first)))
        return first

    def test_known_programs(self):
        begins = Table("ab", ["a", "b"], {("a", "b"): "b", ("b", "a"): "b", ("b", "b"): "b"}, ["b"])
        self.assertEqual(where(backward("ab"), ENDS_WITH_B), begins)
        self.assertEqual(where(plain("ab"), ENDS_WITH_B), ENDS_WITH_B.least())
        self.assertEqual(where(late("ab", "b"), ENDS_WITH_B), ENDS_WITH_B.least())
        self.assertEqual(not_always(late("ab", "a"), EMPTY_TEXT), "a")
        self.assertEqual(not_always(late("ab", "b"), Table("ab", ["s", "t"], {
            **ENDS_WITH_B.ways()
        }, ["s", "t"])), None)
        for program in [plain("ab"), backward("ab"), exchanging("ab", "b"), sorting("ab", "a"), halving("ab"),
                        late("ab", "b"), exchanging("a", "a"), sorting("b", "b")]:
            for table in [EVERYTHING, NO_TEXT, EMPTY_TEXT, ENDS_WITH_B, Table("a", ["on"], {("on", "a"): "on"}, ["on"])]:
                self.check(program, table)

    def test_programs_that_refuse_everything(self):
        for program in [NOTHING, NO_END]:
            for table in [EVERYTHING, NO_TEXT]:
                self.assertIsNone(not_always(program, table))
                self.assertEqual(where(program, table), NONE)
            self.assertEqual(told_at_all(program), NONE)

    def test_letters_that_a_table_does_not_have(self):
        program = told_by(plain("ab"), {"b": "x"})
        self.assertEqual(not_always(program, EVERYTHING), "b")
        self.assertEqual(where(program, EVERYTHING), Table("ab", ["a"], {("a", "a"): "a"}, ["a"]))
        self.assertIsNone(not_always(plain("ab"), EVERYTHING))
        self.assertEqual(where(plain("ab"), Table("xz", ["on"], {}, ["on"])), EMPTY_TEXT.least())

    def test_no_boxes(self):
        program = Program("ab", "", ["p", "q"], {("p", "a"): ("q", {}), ("q", "b"): ("p", {})}, {"p": "ab", "q": "ba"})
        self.assertEqual(not_always(program, ENDS_WITH_B), "a")
        self.assertEqual(where(program, ENDS_WITH_B), Table("ab", ["a", "b"], {
            ("a", "a"): "b", ("b", "b"): "a"
        }, ["a"]))

    def test_first_by_the_alphabet(self):
        program = Program("abc", "X", ["p"], {("p", letter): ("p", {"X": "X" + letter}) for letter in "abc"}, {"p": "X"})
        table = Table("abc", ["s", "t", "u"], {
            ("s", "a"): "s", ("s", "c"): "t", ("s", "b"): "t", ("t", "c"): "u", ("t", "a"): "t", ("t", "b"): "u"
        }, ["s", "t"])
        self.assertEqual(not_always(program, table), "bb")

    def test_against_what_is_told(self):
        chance = random.Random(50)
        found = []
        for _ in range(300):
            program = small_program(chance, "ab"[:chance.randint(1, 2)])
            found.append(self.check(program, small_table(chance, "abcxyz"[:chance.randint(1, 6)], 3)))
        self.assertGreater(len([text for text in found if text]), 15)
        self.assertGreater(found.count(None), 50)

    def test_long_first_texts(self):
        chance = random.Random(51)
        # Only texts with three letters b and more, which come one behind another, are not taken.
        table = Table("ab", ["s", "t", "u"], {
            ("s", "a"): "s", ("s", "b"): "t", ("t", "b"): "u", ("t", "a"): "s", ("u", "a"): "s"
        }, ["s", "t", "u"])
        self.assertEqual(self.check(halving("ab"), table), "babab")
        self.assertEqual(self.check(told_by(halving("ab"), {"b": "ab"}), table), None)
        self.assertEqual(self.check(told_by(sorting("abc", "c"), {"c": ""}), table), "bbb")
        for _ in range(20):
            self.check(program_of(chance, "ab", "XY", 6), table, 6)

    def test_greatest_sizes(self):
        moves = {}
        for at, place in enumerate("pqrstu"):
            moves[(place, "a")] = ("pqrstu"[(at + 1) % 6], {"X": "Xa", "Y": "Y"})
            moves[(place, "b")] = (place, {"X": "Y", "Y": "Xb"})
            moves[(place, "c")] = ("pqrstu"[at - 1], {"X": "cX", "Y": "Y"})
        program = Program("abc", "XY", list("pqrstu"), moves, {place: "YbX" for place in "pqt"})
        table = Table("abc", ["u", "v", "w"], {
            ("u", "a"): "v", ("v", "a"): "w", ("w", "a"): "u", ("u", "b"): "v", ("v", "b"): "u", ("w", "b"): "w",
            ("u", "c"): "u", ("v", "c"): "u", ("w", "c"): "w",
        }, ["u"])
        whole = where(program, table)
        self.assertGreater(len(whole.places), 500)
        chance = random.Random(54)
        for _ in range(200):
            text = "".join(chance.choices("abc", k=30))
            words = plainly_told(program, text)
            self.assertEqual(whole.takes(text), words is not None and table.takes(words))

    def test_made_programs(self):
        chance = random.Random(52)
        for _ in range(40):
            one, two = small_program(chance, "ab", 1, 2), small_program(chance, "ab", 1, 2)
            table = small_table(chance, "abcxyz", 3)
            letters = {letter: chance.choice(["", "a", "xyz"]) for letter in "abxz"}
            for program in [turned(joined(one, two)), either(one, two), told_by(one, letters),
                            led_by(one, {"b": "ab", "c": ""}), within(one, small_table(chance, "ab", 2))]:
                self.check(program, table, 4)

    def test_told_at_all(self):
        self.assertEqual(told_at_all(exchanging("ab", "b")), Table("ab", ["a", "b"], {
            ("a", "a"): "a", ("a", "b"): "b", ("b", "a"): "b", ("b", "b"): "b"
        }, ["b"]))
        self.assertEqual(told_at_all(halving("ab")), ALL)
        chance = random.Random(53)
        for _ in range(150):
            program = program_of(chance, "ba", "XYZ", chance.randint(1, 6))
            found = told_at_all(program)
            self.least(found, "ab")
            for text in texts_up_to("ab", 6):
                self.assertEqual(found.takes(text), plainly_told(program, text) is not None)
            self.assertIsNone(are_alike(found, where(program, Table("abcxyz", ["on"], {
                ("on", letter): "on" for letter in "abcxyz"
            }, ["on"]))))

    def test_fifty_places(self):
        names = [f"p{'abcdefghijklmnopqrstuvwxyz'[k % 26]}{'ab'[k // 26]}" for k in range(50)]
        moves = {(name, "a"): (names[(at + 1) % 50], {}) for at, name in enumerate(names)}
        found = told_at_all(Program("a", "", names, moves, {names[7]: ""}))
        self.assertEqual([len(found.places), found.places[-1], found.shortest()], [50, "ax", "a" * 7])
        self.assertEqual(told_at_all(Program("a", "", names, moves, {name: "" for name in names})).places, ("a",))

    def test_tables_that_were_made(self):
        program = exchanging("ab", "b")
        for table in [where(program, ENDS_WITH_B), ENDS_WITH_B.others(), ENDS_WITH_B.both(EVERYTHING)]:
            self.check(program, table)
            self.check(within(program, table), ENDS_WITH_B)

    def test_by_name(self):
        self.assertEqual(where(table=ENDS_WITH_B, program=plain("ab")), ENDS_WITH_B.least())
        self.assertEqual(not_always(table=ENDS_WITH_B, program=plain("ab")), "")
        self.assertEqual(told_at_all(program=plain("ab")), ALL)


if __name__ == "__main__":
    unittest.main()
