"""Point 7: the texts of programs, and reading them."""

import itertools
import random
import unittest

from tests.made import some_program
from textboxes.errors import BadText, BoxError
from textboxes.programs import Program

TEXT = "\n".join([
    "letters ab",
    "boxes XY",
    "place on",
    "a off X=aX Y=bYb",
    "b on",
    "place off XqY",
    "b on X=Y Y=X",
    "place last -",
])


def with_line(number, line):
    """The lines of TEXT, one of them replaced."""
    lines = TEXT.split("\n")
    lines[number - 1] = line
    return "\n".join(lines)


class Texts(unittest.TestCase):
    def test_text(self):
        program = Program(
            "ba",
            "YX",
            ["on", "off", "last"],
            {
                ("off", "b"): ("on", {"Y": "X", "X": "Y"}),
                ("on", "b"): ("on", {"X": "", "Y": ""}),
                ("on", "a"): ("off", {"Y": "bYb", "X": "aX"}),
            },
            {"last": "", "off": "XqY"},
        )
        self.assertEqual(program.text(), TEXT)
        self.assertEqual(Program.parse(TEXT), program)

    def test_no_boxes(self):
        program = Program("a", "", ["a"], {("a", "a"): ("a", {})}, {"a": "hi"})
        self.assertEqual(program.text(), "letters a\nboxes\nplace a hi\na a")
        self.assertEqual(Program.parse(program.text()), program)

    def test_least(self):
        program = Program("edcba", "", ["abcdefgh"], {}, {})
        self.assertEqual(program.text(), "letters abcde\nboxes\nplace abcdefgh")
        self.assertEqual(Program.parse(program.text()), program)

    def test_an_end_without_signs_is_not_no_end(self):
        with_end = Program("a", "X", ["on"], {}, {"on": ""})
        without = Program("a", "X", ["on"], {}, {})
        self.assertEqual(with_end.text(), "letters a\nboxes X\nplace on -")
        self.assertEqual(without.text(), "letters a\nboxes X\nplace on")
        self.assertEqual(Program.parse(with_end.text()).end("on"), "")
        self.assertIsNone(Program.parse(without.text()).end("on"))

    def test_empty_fillings_are_left_out(self):
        program = Program("a", "XYZ", ["on"], {("on", "a"): ("on", {"X": "", "Y": "a", "Z": ""})}, {})
        self.assertEqual(program.text(), "letters a\nboxes XYZ\nplace on\na on Y=a")

    def test_order(self):
        names = ["z", "b", "y", "a"]
        moves = {(place, letter): ("a", {}) for place in reversed(names) for letter in "dca"}
        text = Program("dca", "", names, moves, {}).text()
        expected = ["letters acd", "boxes"]
        for name in names:
            expected += [f"place {name}", "a a", "c a", "d a"]
        self.assertEqual(text.split("\n"), expected)

    def test_places_called_like_words(self):
        for name in ["place", "letters", "boxes", "a"]:
            program = Program("a", "X", [name], {(name, "a"): (name, {"X": "X"})}, {name: "place"})
            self.assertEqual(program.text(), f"letters a\nboxes X\nplace {name} place\na {name} X=X")
            self.assertEqual(Program.parse(program.text()), program)

    def test_fifty_places_and_six_boxes(self):
        names = [f"{a}{b}" for a, b in itertools.product("abcde", "abcdefghij")]
        fillings = {box: "a" * 150 + box + "b" * 149 for box in "ABCDEF"}
        moves = {(name, letter): (names[0], fillings) for name in names for letter in "abcde"}
        program = Program("abcde", "ABCDEF", names, moves, {name: "FEDCBA" for name in names})
        text = program.text()
        self.assertEqual(len(text.split("\n")), 302)
        self.assertEqual(Program.parse(text), program)

    def test_there_and_back(self):
        chance = random.Random(7)
        for _ in range(300):
            program = some_program(chance)
            again = Program.parse(program.text())
            self.assertTrue(again == program)
            self.assertEqual(again.text(), program.text())

    def test_by_name(self):
        self.assertEqual(Program.parse(text=TEXT).text(), TEXT)

    def test_of_an_object(self):
        program = Program.parse(TEXT)
        self.assertIsInstance(program, Program)
        self.assertEqual(program.parse("letters a\nboxes\nplace a").places, ("a",))


class WrongTexts(unittest.TestCase):
    def wrong(self, text):
        with self.assertRaises(BadText) as caught:
            Program.parse(text)
        self.assertIsInstance(caught.exception, BoxError)
        return caught.exception.line

    def all_wrong(self, number, lines):
        for line in lines:
            with self.subTest(line=line):
                self.assertEqual(self.wrong(with_line(number, line)), number)
                # What follows does not count, even if it is wrong itself or not there at all.
                before = TEXT.split("\n")[:number - 1]
                self.assertEqual(self.wrong("\n".join(before + [line])), number)
                self.assertEqual(self.wrong("\n".join(before + [line, "?", "?"])), number)

    def test_first_line(self):
        self.all_wrong(1, [
            "", " ", "letters", "letters ", " letters ab", "letters  ab", "letters ab ", "letters a b", "letters ba",
            "letters aa", "letters aab", "letters abcdef", "letters A", "letters aB", "letters a1", "Letters ab",
            "letter ab", "lettersab", "ab", "boxes XY", "place on", "letters -", "letters a,b", "letters XY",
        ])

    def test_second_line(self):
        self.all_wrong(2, [
            "", " ", "boxes ", " boxes", "boxes  XY", "boxes XY ", "boxes X Y", "boxes YX", "boxes XX", "boxes XXY",
            "boxes ABCDEFG", "boxes x", "boxes Xy", "boxes -", "boxes 1", "Boxes XY", "box XY", "boxesXY",
            "letters ab", "place on",
        ])

    def test_third_line(self):
        self.all_wrong(3, [
            "", " ", "place", "place ", " place on", "place  on", "place on ", "place on  ", "place On", "place o1",
            "place -", "place abcdefghi", "Place on", "placeon", "a off", "b on", "boxes XY", "place on X Y",
            "place on - -", "place on --", "place on -X", "place on Z", "place on XX", "place on XaX", "place on X1",
            "place on X=X", "place on  X", "place on X ", "place on ZX", "a on X=aX",
        ])

    def test_a_later_place(self):
        self.all_wrong(6, [
            "", " ", "place", "place ", "place on", "place on X", "place off XX", "place off Z", "place off ",
            "place off X ", "place off  X", "letters ab", "boxes XY", "place off - ", "place off XYX",
        ])
        self.all_wrong(8, ["place on", "place off -", "place on -", "place on XY"])

    def test_moves(self):
        self.all_wrong(4, [
            "a", "a ", " a off", "a  off", "a off ", "c off", "A off", "ab off", "z off", "a Off", "a o1",
            "a abcdefghi", "a -", "aoff", "a X=a", "a off X", "a off X=", "a off =a", "a off =", "a off x=a",
            "a off Z=a", "a off Z=", "a off XY=a", "a off X=a X=b", "a off X=a X=a", "a off Y=a X=b", "a off X=XX",
            "a off X=XaX", "a off X=X Y=X", "a off X=aXY Y=bY", "a off X=Z", "a off X=1", "a off X=-", "a off X=a=b",
            "a off X=a  Y=b", "a off X=a Y=b ", "a off X=a Y=", "a off X= Y=b", "a off X==a", "a off X=a,Y=b",
            "a off X a", "a off X = a", "1 off", "- off", "= off",
        ])

    def test_order_of_moves(self):
        self.all_wrong(5, ["a off", "a on", "a off X=aX Y=bYb"])
        self.all_wrong(7, ["c on", "?"])
        self.assertEqual(self.wrong("letters abc\nboxes\nplace on\nb on\na on"), 5)
        self.assertEqual(self.wrong("letters abc\nboxes\nplace on\na on\nc on\nb on"), 6)
        again = Program.parse("letters abc\nboxes\nplace on\nc on\nplace off\na on\nb on")
        self.assertEqual(again.move("off", "a"), ("on", {}))

    def test_a_line_too_many(self):
        for more in ["", " ", "?", "letters ab", "boxes XY", "place off", "place last", "\n"]:
            self.assertEqual(self.wrong(TEXT + "\n" + more), 9)

    def test_fewer_than_three_lines(self):
        self.assertEqual(self.wrong(""), 1)
        self.assertEqual(self.wrong("letters ab"), 2)
        self.assertEqual(self.wrong("letters ab\n"), 2)
        self.assertEqual(self.wrong("letters ab\nboxes"), 3)
        self.assertEqual(self.wrong("letters ab\nboxes\n"), 3)
        self.assertEqual(self.wrong("letters ab\nboxes XY"), 3)
        self.assertEqual(self.wrong("letters ba\nboxes XY"), 1)
        self.assertEqual(self.wrong("letters ab\nboxes YX"), 2)

    def test_other_separators(self):
        self.assertEqual(self.wrong(TEXT.replace("\n", " ")), 1)
        self.assertEqual(self.wrong(TEXT.replace("\n", "\n\n")), 2)
        self.assertEqual(self.wrong("\n" + TEXT), 1)

    def test_boxes_that_are_not_there(self):
        self.assertEqual(self.wrong(with_line(2, "boxes")), 4)
        self.assertEqual(self.wrong(with_line(2, "boxes X")), 4)
        self.assertEqual(self.wrong("letters a\nboxes\nplace on X"), 3)

    def test_letters_that_are_not_there(self):
        self.assertEqual(self.wrong(with_line(1, "letters a")), 5)
        self.assertEqual(self.wrong(with_line(1, "letters b")), 4)

    def test_more_than_fifty_places(self):
        names = [f"{a}{b}" for a, b in itertools.product("abcdef", "abcdefghij")]
        lines = ["letters a", "boxes"] + [f"place {name}" for name in names]
        self.assertEqual(len(Program.parse("\n".join(lines[:52])).places), 50)
        self.assertEqual(self.wrong("\n".join(lines[:53])), 53)
        self.assertEqual(self.wrong("\n".join(lines)), 53)

    def test_a_move_to_a_place_that_is_not_there(self):
        self.assertEqual(self.wrong(with_line(4, "a none")), 4)
        self.assertEqual(self.wrong(with_line(5, "b none")), 5)
        self.assertEqual(self.wrong(with_line(7, "b none X=Y")), 7)
        self.assertEqual(self.wrong(with_line(4, "a none") + "\na none"), 4)
        self.assertEqual(self.wrong("letters a\nboxes\nplace on\na off"), 4)

    def test_a_line_that_cannot_stand_goes_before_a_place_that_is_not_there(self):
        self.assertEqual(self.wrong(with_line(4, "a none") + "\n?"), 9)
        self.assertEqual(self.wrong(with_line(4, "a none") + "\nplace on"), 9)

    def test_places_to_which_moves_lead_are_not_counted(self):
        names = [f"{a}{b}" for a, b in itertools.product("abcde", "abcdefghij")]
        lines = ["letters ab", "boxes", f"place {names[0]}", "a none", "b more"]
        lines += [f"place {name}" for name in names[1:]]
        self.assertEqual(self.wrong("\n".join(lines)), 4)
        self.assertEqual(self.wrong("\n".join(lines + ["place none"])), 55)
        lines[3:5] = [f"a {names[49]}", f"b {names[1]}"]
        self.assertEqual(len(Program.parse("\n".join(lines)).places), 50)

    def test_changed_texts_are_read_only_if_they_are_texts_of_programs(self):
        chance = random.Random(11)
        for _ in range(2000):
            text = some_program(chance).text()
            at = chance.randrange(len(text))
            sign = chance.choice("abXY =-\npo")
            changed = chance.choice([text[:at] + text[at + 1:], text[:at] + sign + text[at:],
                                     text[:at] + sign + text[at + 1:]])
            try:
                program = Program.parse(changed)
            except BadText as error:
                self.assertTrue(1 <= error.line <= max(3, len(changed.split("\n"))))
            else:
                self.assertEqual(program.text(), changed)


if __name__ == "__main__":
    unittest.main()
