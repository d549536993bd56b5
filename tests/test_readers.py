"""Point 8: live readers."""

import random
import unittest

from tests.made import plainly_behind, plainly_told, some_program
from textboxes.errors import BoxError, NoDeed, NotLetter
from textboxes.known import backward, halving, late, plain
from textboxes.programs import Program
from textboxes.readers import Reader

STOPPING = Program.parse("letters ab\nboxes X\nplace on X\na on X=aX\nb off X=X\nplace off\na off X=X")


class Reading(unittest.TestCase):
    def test_first_state(self):
        reader = Reader(backward("ab"))
        self.assertEqual(reader.program, backward("ab"))
        self.assertEqual(reader.text(), "")
        self.assertEqual(reader.state(), ("on", {"X": ""}))
        self.assertEqual(reader.told(), "")

    def test_reading(self):
        reader = Reader(backward("ab"))
        self.assertEqual(reader.read("a"), "a")
        self.assertEqual(reader.read("ab"), "baa")
        self.assertEqual(reader.text(), "aab")
        self.assertEqual(reader.state(), ("on", {"X": "baa"}))
        self.assertEqual(reader.told(), "baa")

    def test_refused(self):
        reader = Reader(STOPPING)
        self.assertEqual(reader.read("aa"), "aa")
        self.assertIsNone(reader.read("b"))
        self.assertEqual(reader.state(), ("off", {"X": "aa"}))
        self.assertIsNone(reader.read("b"))
        self.assertIsNone(reader.state())
        self.assertIsNone(reader.read("aaa"))
        self.assertIsNone(reader.read(""))
        self.assertEqual(reader.text(), "aabbaaa")
        for _ in range(4):
            last = reader.undo()
        self.assertEqual(last, "aa")
        self.assertEqual(reader.text(), "aa")

    def test_by_name(self):
        reader = Reader(program=plain("a"))
        self.assertEqual(reader.read(text="a"), "a")

    def test_the_program_of_a_reader_stays(self):
        program = plain("a")
        reader = Reader(program)
        self.assertIs(reader.program, program)
        reader.read("aaa")
        self.assertEqual(program, plain("a"))

    def test_readers_of_one_program(self):
        program = plain("ab")
        one, two = Reader(program), Reader(program)
        one.read("ab")
        self.assertEqual(two.text(), "")
        self.assertEqual(two.read("b"), "b")
        self.assertEqual(one.told(), "ab")
        self.assertFalse(one == two)
        self.assertTrue(one != program)

    def test_states_are_new(self):
        reader = Reader(backward("ab"))
        reader.read("ab")
        state = reader.state()
        state[1]["X"] = "changed"
        state[1]["Y"] = ""
        self.assertEqual(reader.state(), ("on", {"X": "ba"}))
        self.assertEqual(reader.read("b"), "bba")
        self.assertEqual(list(Reader(Program("a", "BA", ["on"], {}, {})).state()[1]), ["A", "B"])


class Undoing(unittest.TestCase):
    def test_undo_and_again(self):
        reader = Reader(plain("ab"))
        reader.read("a")
        reader.read("bb")
        reader.read("a")
        self.assertEqual(reader.undo(), "abb")
        self.assertEqual(reader.undo(), "a")
        self.assertEqual(reader.text(), "a")
        self.assertEqual(reader.again(), "abb")
        self.assertEqual(reader.again(), "abba")
        self.assertEqual(reader.undo(), "abb")
        self.assertEqual(reader.undo(), "a")
        self.assertEqual(reader.undo(), "")
        self.assertEqual(reader.state(), ("on", {"X": ""}))

    def nothing(self, call):
        with self.assertRaises(NoDeed) as caught:
            call()
        self.assertIsInstance(caught.exception, BoxError)

    def test_nothing_to_undo(self):
        reader = Reader(plain("a"))
        self.nothing(reader.undo)
        reader.read("a")
        reader.undo()
        self.nothing(reader.undo)
        self.assertEqual(reader.again(), "a")

    def test_nothing_to_read_again(self):
        reader = Reader(plain("a"))
        self.nothing(reader.again)
        reader.read("a")
        self.nothing(reader.again)
        reader.undo()
        reader.again()
        self.nothing(reader.again)
        self.assertEqual(reader.text(), "a")

    def test_what_is_read_anew_forgets_what_was_undone(self):
        for anew in ["b", "a", ""]:
            reader = Reader(plain("ab"))
            reader.read("a")
            reader.read("a")
            reader.undo()
            reader.read(anew)
            self.nothing(reader.again)
            self.assertEqual(reader.text(), "a" + anew)
            self.assertEqual(reader.undo(), "a")
            self.assertEqual(reader.again(), "a" + anew)

    def test_a_text_without_letters_is_a_deed(self):
        reader = Reader(plain("a"))
        self.assertEqual(reader.read(""), "")
        self.assertEqual(reader.undo(), "")
        self.nothing(reader.undo)
        self.assertEqual(reader.again(), "")
        reader.read("a")
        reader.read("")
        self.assertEqual(reader.undo(), "a")
        self.assertEqual(reader.undo(), "")
        self.assertEqual(reader.text(), "")

    def test_wrong_signs_change_nothing(self):
        reader = Reader(plain("ab"))
        reader.read("a")
        reader.read("b")
        reader.undo()
        for wrong, letter in [("c", "c"), ("abc!", "c"), ("A", "A"), (None, None), (3, 3), (["a"], ["a"])]:
            with self.assertRaises(NotLetter) as caught:
                reader.read(wrong)
            self.assertEqual(caught.exception.letter, letter)
            self.assertEqual([reader.text(), reader.told()], ["a", "a"])
        self.assertEqual(reader.again(), "ab")

    def test_wrong_signs_behind_a_refused_text(self):
        reader = Reader(STOPPING)
        reader.read("bb")
        with self.assertRaises(NotLetter):
            reader.read("z")
        self.assertEqual(reader.text(), "bb")


class Runs(unittest.TestCase):
    def test_against_the_words(self):
        chance = random.Random(8)
        for _ in range(80):
            program = some_program(chance)
            reader = Reader(program)
            done, undone = [], []
            for _ in range(25):
                kind = chance.randrange(4)
                if kind == 0 and done:
                    undone.append(done.pop())
                    found = reader.undo()
                elif kind == 1 and undone:
                    done.append(undone.pop())
                    found = reader.again()
                else:
                    text = "".join(chance.choice(program.letters) for _ in range(chance.randrange(4)))
                    done.append(text)
                    undone = []
                    found = reader.read(text)
                text = "".join(done)
                self.assertEqual(found, plainly_told(program, text))
                self.assertEqual(reader.told(), found)
                self.assertEqual(reader.text(), text)
                self.assertEqual(reader.state(), plainly_behind(program, text))

    def test_many_letters_one_by_one(self):
        text = "ab" * 5000
        for program, end in [(plain("ab"), text), (backward("ab"), text[::-1]), (late("ab", "b"), text)]:
            reader = Reader(program)
            for letter in text:
                found = reader.read(letter)
            self.assertEqual(found, end)
            for _ in text[1:]:
                found = reader.undo()
            self.assertEqual(reader.text(), "a")
            self.assertEqual(found, reader.told())
            for _ in text[1:]:
                found = reader.again()
            self.assertEqual(found, end)

    def test_many_letters_at_once(self):
        reader = Reader(halving("ab"))
        self.assertEqual(reader.read("ab" * 5000), "a" * 5000)
        self.assertEqual(reader.read("b"), "a" * 5000 + "b")
        self.assertEqual(reader.undo(), "a" * 5000)
        self.assertEqual(reader.undo(), "")


if __name__ == "__main__":
    unittest.main()
