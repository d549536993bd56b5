"""Point 17: by how much what one program tells is worth more than what another one tells."""

import random
import unittest

from tests.made import Kit, plainly_told, program_of, small_program, small_table, texts_up_to, twin_of
from textboxes.errors import BadWorths, OtherLetters
from textboxes.gaps import gap
from textboxes.known import backward, exchanging, halving, late, plain, sorting
from textboxes.makers import either, joined, led_by, told_by, turned, within
from textboxes.programs import Program
from textboxes.tables import Table

NOTHING = Program("ab", "", ["on"], {}, {})
NO_END = Program("ab", "X", ["on"], {("on", "a"): ("on", {"X": "Xa"}), ("on", "b"): ("on", {})}, {})
SILENT = Program("ab", "", ["on"], {("on", "a"): ("on", {}), ("on", "b"): ("on", {})}, {"on": ""})
A_LETTER = Program("ab", "", ["on"], {("on", "a"): ("on", {}), ("on", "b"): ("on", {})}, {"on": "z"})


def worth(text, worths):
    return len(text) if worths is None else sum(worths.get(letter, 0) for letter in text)


def counting(many, ends, letter="a"):
    """A program with a ring of so many places and these ends, which says by letters how far it came round."""
    names = ["abcdefghijklmnopqrstuvwxyz"[k] for k in range(many)]
    return Program(letter, "", names, {(name, letter): (names[(at + 1) % many], {}) for at, name in enumerate(names)}, ends)


class Gaps(Kit):
    def gap_of(self, one, two, text, worths):
        first, second = plainly_told(one, text), plainly_told(two, text)
        return None if first is None or second is None else worth(first, worths) - worth(second, worths)

    def check(self, one, two, worths=None, most=6):
        """Check a gap by what is told of all short texts, and by three texts that show that it is endless."""
        found = gap(one, two, worths)
        self.assertIsInstance(found, tuple)
        gaps = {text: self.gap_of(one, two, text, worths) for text in texts_up_to(one.letters, most)}
        gaps = {text: number for text, number in gaps.items() if number is not None}
        if found[0] == "none":
            self.assertEqual([found, gaps], [("none",), {}])
        elif found[0] == "most":
            _, number, text = found
            self.assertEqual(self.gap_of(one, two, text, worths), number)
            self.assertLessEqual(max(gaps.values(), default=number), number)
            if len(text) <= most:
                self.assertEqual(len(text), min(len(one) for one, other in gaps.items() if other == number))
            else:
                self.assertNotIn(number, gaps.values())
        else:
            kind, ahead, ring, behind = found
            self.assertEqual(kind, "endless")
            numbers = [self.gap_of(one, two, ahead + ring * many + behind, worths) for many in range(6)]
            self.assertNotIn(None, numbers)
            steps = [numbers[k + 1] - numbers[k] for k in range(5)]
            self.assertGreater(steps[0], 0)
            self.assertEqual(steps, [steps[0]] * 5)
        return found[0]

    def test_known_programs(self):
        self.assertEqual(gap(plain("ab"), sorting("ab", "a")), ("most", 0, ""))
        self.assertEqual(gap(joined(plain("a"), plain("a")), plain("a"))[0], "endless")
        self.assertEqual(gap(halving("ab"), plain("ab")), ("most", 0, ""))
        self.assertEqual(gap(plain("ab"), halving("ab"))[0], "endless")
        self.assertEqual(gap(exchanging("ab", "b"), plain("ab")), ("most", 0, "b"))
        self.assertEqual(gap(late("ab", "b"), plain("ab")), ("most", 0, ""))
        self.assertEqual(gap(plain("ab"), late("ab", "b"))[0], "endless")
        for one in [plain("ab"), backward("ab"), exchanging("ab", "a"), sorting("ab", "a"), halving("ab"), late("ab", "a")]:
            for two in [plain("ab"), exchanging("ab", "b"), halving("ab"), late("ab", "b"), SILENT, A_LETTER, NOTHING]:
                for worths in [None, {}, {"a": 1, "b": -1}, {"a": 2}, {"b": -3, "a": 0}]:
                    self.check(one, two, worths)

    def test_no_text_of_which_both_tell_something(self):
        for one in [NOTHING, NO_END, plain("ab")]:
            for two in [NOTHING, NO_END]:
                self.assertEqual(gap(one, two), ("none",))
                self.assertEqual(gap(two, one, {"a": -1}), ("none",))
        even, odd = counting(2, {"a": "x"}), counting(4, {"b": "", "d": "xyz"})
        self.assertEqual(gap(even, odd), ("none",))
        self.assertEqual(gap(even, counting(3, {"b": "xxxx", "c": ""})), ("most", 1, "aa"))

    def test_worths(self):
        self.assertEqual(gap(plain("ab"), SILENT, {"a": -1, "b": 0}), ("most", 0, ""))
        self.assertEqual(gap(plain("ab"), SILENT, {"a": 0}), ("most", 0, ""))
        self.assertEqual(gap(plain("ab"), A_LETTER, {"z": -9}), ("most", 9, ""))
        self.assertEqual(gap(plain("ab"), A_LETTER, {}), ("most", 0, ""))
        self.assertEqual(gap(A_LETTER, plain("ab")), ("most", 1, ""))
        self.assertEqual(gap(SILENT, plain("ab"), {"b": -2})[0], "endless")
        self.assertEqual(gap(plain("ab"), plain("ab"), {"a": 5, "b": -7}), ("most", 0, ""))
        self.assertEqual(gap(plain("ab"), plain("ab"), worths=None), ("most", 0, ""))

    def test_a_shortest_text_with_the_greatest_gap(self):
        moves = {("a", "a"): ("b", {"X": "Xx"}), ("b", "a"): ("c", {"X": "X"}), ("c", "a"): ("d", {"X": "Xxx"}),
                 ("a", "b"): ("c", {"X": "X"}), ("c", "b"): ("a", {"X": "X"}), ("d", "b"): ("d", {"X": "X"})}
        program = Program("ab", "X", list("abcd"), moves, {"d": "X", "a": "X"})
        self.assertEqual(self.check(program, SILENT), "endless")
        moves[("c", "b")] = ("a", {})
        self.assertEqual(gap(Program("ab", "X", list("abcd"), moves, {"d": "X", "a": "X"}), SILENT), ("most", 3, "aaa"))
        moves[("a", "b")] = ("c", {"X": "Xx"})
        self.assertEqual(gap(Program("ab", "X", list("abcd"), moves, {"d": "X", "a": "X"}), SILENT), ("most", 3, "ba"))

    def test_rings(self):
        # A ring by which gaps grow only as long as its box is told, and one by which they do not grow.
        moves = {("p", "a"): ("p", {"X": "Xa", "Y": "Y"}), ("p", "b"): ("q", {"Y": "Yb"}), ("q", "a"): ("q", {"Y": "Y"})}
        self.assertEqual(gap(Program("ab", "XY", ["p", "q"], moves, {"q": "XY"}), SILENT), ("most", 1, "b"))
        self.assertEqual(gap(Program("ab", "XY", ["p", "q"], moves, {"p": "Xz", "q": "XY"}), SILENT)[0], "endless")
        moves[("p", "b")] = ("q", {"Y": "YX"})
        found = gap(Program("ab", "XY", ["p", "q"], moves, {"q": "XY"}), SILENT)
        self.assertEqual(found[0], "endless")
        self.assertEqual(set(found[2]), {"a"})
        # Two places in turn: it grows by 3 and falls by 2.
        ring = Program("a", "X", ["p", "q"], {("p", "a"): ("q", {"X": "Xxxx"}), ("q", "a"): ("p", {"X": "yXy"})}, {"q": "X"})
        nothing = Program("a", "", ["p"], {("p", "a"): ("p", {})}, {"p": ""})
        self.assertEqual(self.check(ring, nothing, {"x": 1, "y": -1}), "endless")
        self.assertEqual(gap(ring, nothing, {"x": 2, "y": -3}), ("most", 6, "a"))
        self.assertEqual(gap(ring, nothing, {"x": 2, "y": -4}), ("most", 6, "a"))

    def test_rings_that_cannot_be_left(self):
        moves = {("p", "a"): ("q", {"X": "Xa"}), ("q", "a"): ("q", {"X": "Xa"}), ("p", "b"): ("p", {"X": "X"})}
        self.assertEqual(gap(Program("ab", "X", ["p", "q"], moves, {"p": "Xz"}), SILENT), ("most", 1, ""))
        two = Program("ab", "", ["p"], {("p", "b"): ("p", {})}, {"p": ""})
        self.assertEqual(gap(Program("ab", "X", ["p", "q"], moves, {"p": "X", "q": "X"}), two), ("most", 0, ""))

    def test_boxes_that_are_exchanged(self):
        moves = {("p", "a"): ("p", {"X": "Yz", "Y": "Z", "Z": "X"})}
        one = Program("a", "XYZ", ["p"], moves, {"p": "X"})
        self.assertEqual(self.check(one, Program("a", "", ["p"], {("p", "a"): ("p", {})}, {"p": ""})), "endless")
        self.assertEqual(self.check(one, plain("a")), "most")
        self.assertEqual(gap(one, plain("a")), ("most", 0, ""))

    def test_against_what_is_told(self):
        chance = random.Random(70)
        kinds = {"most": 0, "endless": 0, "none": 0}
        for _ in range(500):
            one = small_program(chance, "ab"[:chance.randint(1, 2)], 3)
            two = chance.choice([lambda: twin_of(chance, one), lambda: small_program(chance, one.letters, 3)])()
            worths = chance.choice([None, {letter: chance.randint(-9, 9) for letter in "abcxyz" if chance.random() < 0.8}])
            kinds[self.check(one, two, worths)] += 1
        self.assertGreater(min(kinds.values()), 40)

    def test_made_programs(self):
        chance = random.Random(71)
        for _ in range(60):
            one, two = small_program(chance, "ab", 1, 2), small_program(chance, "ab", 1, 2)
            table = small_table(chance, "ab", 2)
            for made in [joined(one, turned(two)), either(one, two), within(one, table), told_by(one, {"a": "", "x": "yyz"}),
                         led_by(one, {"b": "ab", "a": ""})]:
                self.check(made, two, chance.choice([None, {"a": 1, "x": -2, "y": 1}]), 5)
        long = told_by(told_by(plain("ab"), {"a": "ab" * 50}), {"a": "c" * 100, "b": "d" * 90})
        self.assertEqual(gap(long, turned(long)), ("most", 0, ""))
        self.assertEqual(gap(long, plain("ab"), {"c": 9, "d": -10, "b": 90 * 10})[0], "most")
        self.assertEqual(gap(long, plain("ab"), {"c": 9, "d": -9})[0], "endless")

    def test_greatest_sizes(self):
        chance = random.Random(72)
        for many in [1, 10]:
            one, two = program_of(chance, "abcde", "XYZ", 6), program_of(chance, "abcde", "XYZ", 6)
            self.check(one, two, None, 3)
            self.check(one, two, {"a": 1, "b": -1, "c": 0, "x": -9, "z": 9}, 3)
        ones = [f"p{sign}" for sign in "abcdefghij"]
        moves = {(name, letter): (ones[(at + 1) % 10], {"X": "Y", "Y": "Z", "Z": "X" + letter})
                 for at, name in enumerate(ones) for letter in "abcde"}
        one = Program("abcde", "XYZ", ones, moves, {ones[9]: "XYZ"})
        two = Program("abcde", "XYZ", ones[:9], {
            (name, letter): (ones[(at + 1) % 9], {"X": "Z" + letter, "Y": "X", "Z": "Y"})
            for at, name in enumerate(ones[:9]) for letter in "abcde"
        }, {ones[8]: "X"})
        found = gap(one, two)
        self.assertEqual(found[0], "endless")
        self.assertEqual(gap(two, one), ("most", -59, "a" * 89))
        self.assertEqual(self.check(two, one, {"a": 1, "b": -2}, 3), "endless")

    def test_other_letters(self):
        for one, two, letter in [("ab", "bc", "a"), ("bc", "abc", "a"), ("ab", "abz", "z"), ("a", "b", "a")]:
            for worths in [None, {}, 3, {"A": 1}]:
                self.assertEqual(self.raised(OtherLetters, gap, plain(one), plain(two), worths).letter, letter)

    def test_wrong_worths(self):
        for wrong in [1, "a", [("a", 1)], ("a",), {"a"}, True, False, 0, [], ""]:
            self.assertIsNone(self.raised(BadWorths, gap, plain("a"), plain("a"), wrong).letter)
        for wrong in ["", "A", "ab", "-", 1, None, True, ("a",), b"a"]:
            found = self.raised(BadWorths, gap, plain("a"), plain("a"), {"z": 0, wrong: 1, "a": None})
            self.assertEqual(found.letter, wrong)
        for wrong in [None, True, False, "1", 1.0, [1], (1,), object()]:
            found = self.raised(BadWorths, gap, NOTHING, NOTHING, {"z": 0, "c": wrong, 1: 1})
            self.assertEqual(found.letter, "c")

    def test_worths_stay(self):
        worths = {"b": 1, "a": -1}
        gap(plain("ab"), SILENT, worths)
        self.assertEqual(list(worths.items()), [("b", 1), ("a", -1)])

    def test_by_name(self):
        self.assertEqual(gap(worths={"z": -9}, two=A_LETTER, one=plain("ab")), ("most", 9, ""))
        self.assertEqual(gap(two=plain("ab"), one=A_LETTER), ("most", 1, ""))

    def test_within_tables_that_take_nothing(self):
        self.assertEqual(gap(within(plain("ab"), Table("ab", ["on"], {}, [])), plain("ab")), ("none",))


if __name__ == "__main__":
    unittest.main()
