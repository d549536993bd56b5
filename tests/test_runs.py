"""Points 1, 4, 5 and 6: the states of programs, and what they tell."""

import itertools
import random
import unittest

from tests.made import plainly_behind, plainly_told, some_program
from textboxes.errors import BoxError, NotLetter
from textboxes.programs import Program
from textboxes.runs import behind, told

SWAP = Program.parse("\n".join([
    "letters abc",
    "boxes XY",
    "place on XY",
    "a on X=aX Y=Y",
    "b on X=Y Y=X",
    "c stop X=X",
    "place stop",
    "a full Y=zX",
    "place full -",
    "b on X=qY",
]))


class States(unittest.TestCase):
    def test_first_state(self):
        self.assertEqual(behind(SWAP, ""), ("on", {"X": "", "Y": ""}))
        self.assertEqual(told(SWAP, ""), "")

    def test_steps(self):
        self.assertEqual(behind(SWAP, "a"), ("on", {"X": "a", "Y": ""}))
        self.assertEqual(behind(SWAP, "aa"), ("on", {"X": "aa", "Y": ""}))
        self.assertEqual(behind(SWAP, "aacab"), ("on", {"X": "qzaa", "Y": ""}))

    def test_all_boxes_change_at_once(self):
        self.assertEqual(behind(SWAP, "aab"), ("on", {"X": "", "Y": "aa"}))
        self.assertEqual(behind(SWAP, "aaba"), ("on", {"X": "a", "Y": "aa"}))
        self.assertEqual(behind(SWAP, "aabab"), ("on", {"X": "aa", "Y": "a"}))
        ring = Program("a", "XYZ", ["on"], {("on", "a"): ("on", {"X": "Yx", "Y": "Zy", "Z": "Xz"})}, {"on": "ZYX"})
        self.assertEqual(behind(ring, "aa"), ("on", {"X": "yx", "Y": "zy", "Z": "xz"}))
        self.assertEqual(told(ring, "aaa"), "yxzxzyzyx")

    def test_a_box_without_a_filling_gets_the_empty_text(self):
        self.assertEqual(behind(SWAP, "aabac"), ("stop", {"X": "a", "Y": ""}))
        kept = Program("a", "XY", ["on"], {("on", "a"): ("on", {"X": "", "Y": "aY"})}, {"on": "XY"})
        left = Program("a", "XY", ["on"], {("on", "a"): ("on", {"Y": "aY"})}, {"on": "XY"})
        self.assertEqual(behind(kept, "aa"), behind(left, "aa"))
        cleared = Program.parse("letters ab\nboxes X\nplace on X\na on X=aX\nb on")
        self.assertEqual(told(cleared, "aaba"), "a")

    def test_no_move(self):
        self.assertIsNone(behind(SWAP, "cb"))
        self.assertIsNone(told(SWAP, "cb"))
        for text in ["cba", "cbb", "cc", "ccab", "abcca"]:
            self.assertIsNone(behind(SWAP, text), text)
            self.assertIsNone(told(SWAP, text), text)

    def test_no_end(self):
        self.assertEqual(behind(SWAP, "c"), ("stop", {"X": "", "Y": ""}))
        self.assertIsNone(told(SWAP, "c"))
        self.assertIsNone(told(Program("a", "", ["on"], {}, {}), ""))

    def test_empty_end(self):
        self.assertEqual(behind(SWAP, "aca"), ("full", {"X": "", "Y": "za"}))
        self.assertEqual(told(SWAP, "aca"), "")

    def test_end_with_letters(self):
        program = Program("ab", "XY", ["on"], {("on", "a"): ("on", {"X": "X", "Y": "bYa"})}, {"on": "pYqXr"})
        self.assertEqual(told(program, ""), "pqr")
        self.assertEqual(told(program, "aa"), "pbbaaqr")

    def test_no_boxes(self):
        program = Program("a", "", ["no", "yes"], {("no", "a"): ("yes", {}), ("yes", "a"): ("no", {})}, {"yes": "y"})
        self.assertEqual([told(program, "a" * many) for many in range(4)], [None, "y", None, "y"])
        self.assertEqual(behind(program, "aa"), ("no", {}))

    def test_boxes_ascending(self):
        program = Program("a", "CAB", ["on"], {("on", "a"): ("on", {"C": "c", "B": "b"})}, {})
        state = behind(program, "a")
        self.assertIsInstance(state, tuple)
        self.assertEqual(list(state[1].items()), [("A", ""), ("B", "b"), ("C", "c")])
        self.assertEqual(list(behind(program, "")[1]), ["A", "B", "C"])

    def test_against_the_words(self):
        chance = random.Random(3)
        for _ in range(200):
            program = some_program(chance)
            for many in list(range(5)) + [20]:
                text = "".join(chance.choice(program.letters) for _ in range(many))
                self.assertEqual(behind(program, text), plainly_behind(program, text))
                self.assertEqual(told(program, text), plainly_told(program, text))

    def test_by_name(self):
        self.assertEqual(told(program=SWAP, text="aab"), "aa")
        self.assertEqual(behind(text="a", program=SWAP), ("on", {"X": "a", "Y": ""}))


class NoLetters(unittest.TestCase):
    def wrong(self, text):
        for run in [told, behind]:
            with self.assertRaises(NotLetter) as caught:
                run(SWAP, text)
            self.assertIsInstance(caught.exception, BoxError)
        return caught.exception.letter

    def test_first_sign_that_is_no_letter(self):
        self.assertEqual(self.wrong("d"), "d")
        self.assertEqual(self.wrong("abd"), "d")
        self.assertEqual(self.wrong("abXd"), "X")
        self.assertEqual(self.wrong("a b"), " ")
        self.assertEqual(self.wrong("ab\n"), "\n")
        self.assertEqual(self.wrong("-"), "-")
        self.assertEqual(self.wrong("zY"), "z")
        self.assertEqual(self.wrong("a" * 9999 + "A"), "A")

    def test_also_in_a_text_that_is_refused_before(self):
        self.assertIsNone(told(SWAP, "cb"))
        self.assertEqual(self.wrong("cbd"), "d")
        self.assertEqual(self.wrong("ccccc!"), "!")
        none = Program("a", "", ["on"], {}, {})
        with self.assertRaises(NotLetter) as caught:
            behind(none, "aab")
        self.assertEqual(caught.exception.letter, "b")

    def test_objects_that_are_no_strings(self):
        for thing in [None, 0, True, 1.5, b"ab", ["a"], ("a", "b"), {"a": 1}, object(), [], (), {}]:
            self.assertIs(self.wrong(thing), thing)


class Copies(unittest.TestCase):
    def test_what_is_returned_may_be_changed(self):
        state = behind(SWAP, "aab")
        state[1]["X"] = "zzz"
        state[1].clear()
        self.assertEqual(behind(SWAP, "aab"), ("on", {"X": "", "Y": "aa"}))
        self.assertEqual(told(SWAP, "aab"), "aa")

    def test_runs_do_not_change_the_program(self):
        before = SWAP.text()
        for text in ["", "aab", "aacab", "ccc"]:
            told(SWAP, text)
            behind(SWAP, text)
        self.assertEqual(SWAP.text(), before)

    def test_what_was_passed_to_the_program_may_be_changed(self):
        fillings = {"X": "Xa"}
        moves = {("on", "a"): ("on", fillings)}
        ends = {"on": "X"}
        program = Program("a", "X", ["on"], moves, ends)
        fillings["X"] = "Xb"
        moves.clear()
        ends["on"] = ""
        self.assertEqual(told(program, "aa"), "aa")


class LongTexts(unittest.TestCase):
    def test_ten_thousand_letters(self):
        turn = Program.parse("letters ab\nboxes X\nplace on X\na on X=aX\nb on X=bX")
        text = "aab" * 3333 + "b"
        self.assertEqual(told(turn, text), text[::-1])
        self.assertEqual(behind(turn, text), ("on", {"X": text[::-1]}))

    def test_long_fillings_in_all_boxes(self):
        fillings = {box: "a" * 150 + box + "b" * 149 for box in "ABCDEF"}
        moves = {("on", "a"): ("on", fillings), ("on", "b"): ("on", {"A": "ABCDEF"})}
        program = Program("ab", "ABCDEF", ["on"], moves, {"on": "ABCDEF"})
        one = "a" * 150 * 9999 + "b" * 149 * 9999
        self.assertEqual(told(program, "a" * 9999), one * 6)
        self.assertEqual(behind(program, "a" * 9999 + "b")[1]["A"], one * 6)
        self.assertEqual(told(program, "ab" * 100), plainly_told(program, "ab" * 100))
        self.assertEqual(len(told(program, "ab" * 5000)), 6 * 299 * 5000)

    def test_boxes_that_only_change_places(self):
        fillings = {"A": "B", "B": "C", "C": "D", "D": "E", "E": "F", "F": "A"}
        program = Program("ab", "ABCDEF", ["on"], {
            ("on", "a"): ("on", fillings),
            ("on", "b"): ("on", {**fillings, "F": "xA"}),
        }, {"on": "ABCDEF"})
        self.assertEqual(told(program, "b" * 7 + "a" * 9993), plainly_told(program, "b" * 7 + "a" * 9993))

    def test_growth(self):
        chance = random.Random(5)
        for _ in range(100):
            program = some_program(chance)
            text = "".join(chance.choice(program.letters) for _ in range(30))
            place, most = program.places[0], 0
            for many in range(len(text) + 1):
                state = behind(program, text[:many])
                if state is None:
                    break
                self.assertLessEqual(sum(len(worth) for worth in state[1].values()), most)
                move = program.move(state[0], text[many]) if many < len(text) else None
                if move is not None:
                    most += sum(sign.islower() for filling in move[1].values() for sign in filling)


class Ordinary(unittest.TestCase):
    def test_exchanging(self):
        program = Program.parse("\n".join([
            "letters abs",
            "boxes XY",
            "place ahead",
            "a ahead X=Xa",
            "b ahead X=Xb",
            "s behind X=X",
            "place behind YsX",
            "a behind X=X Y=Ya",
            "b behind X=X Y=Yb",
            "s behind X=X Y=Ys",
        ]))
        for one, two in itertools.product(["", "a", "ab", "bba"], ["", "b", "asb", "ss"]):
            self.assertEqual(told(program, one + "s" + two), two + "s" + one)
            self.assertIsNone(told(program, one))


if __name__ == "__main__":
    unittest.main()
