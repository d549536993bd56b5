"""Points 1, 2 and 3: programs, their parts, moves, ends and equality."""

import collections
import copy
import itertools
import unittest

from textboxes.errors import BadProgram, BoxError
from textboxes.programs import Program


def parts():
    """The five parts of a program with two boxes and two places."""
    return {
        "letters": "ba",
        "boxes": "YX",
        "places": ["on", "off"],
        "moves": {
            ("on", "a"): ("off", {"Y": "aYb", "X": ""}),
            ("off", "b"): ("on", {"Y": "zX", "X": "Y"}),
            ("off", "a"): ("off", {}),
        },
        "ends": {"off": "XqY", "on": ""},
    }


class Loud:
    """An object that nothing may be done with but asking what it is."""

    def __eq__(self, other):
        raise RuntimeError("compared")

    def __hash__(self):
        return 1

    def __len__(self):
        raise RuntimeError("measured")

    def __iter__(self):
        raise RuntimeError("iterated")

    def __bool__(self):
        raise RuntimeError("tested")


ODD = [None, 0, 1, True, 1.5, b"a", Loud(), object(), len, Program, {1}, frozenset("a"), range(2), iter("a")]

WRONG = {
    "letters": [
        *ODD, [], ["a"], ("a", "b"), {"a": 1}, [[["a"]]],
        "", "A", "aA", "aa", "aba", "abcdef", "abcdefghij", " ", "a b", "a\n", "1", "a-", "`", "{",
    ],
    "boxes": [
        *ODD, [], ["X"], ("X", "Y"), {"X": 1},
        "x", "Xx", "XX", "XYX", "ABCDEFG", " ", "X Y", "X\n", "1", "-", "@", "[",
    ],
    "places": [
        *ODD, [], (), "on", "", {"on": 1}, [1], ["on", 1], [True], [None], [["on"]], [("on",)], [Loud()], [b"on"],
        [""], ["on", ""], ["On"], ["o n"], ["on\n"], ["on "], ["a1"], ["-"], ["abcdefghi"], ["on", "on"],
        ["on", "off", "on"], [f"{a}{b}" for a, b in itertools.product("abc", "abcdefghijklmnopq")],
    ],
    "moves": [
        *ODD, [], (), "", [("on", "a")], [(("on", "a"), ("off", {}))],
        {"on": ("off", {})}, {"ona": ("off", {})}, {1: ("off", {})}, {None: ("off", {})}, {Loud(): ("off", {})},
        {(): ("off", {})}, {("on",): ("off", {})}, {("on", "a", "b"): ("off", {})}, {"xa": ("off", {})},
        {("no", "a"): ("off", {})}, {("", "a"): ("off", {})}, {("on", ""): ("off", {})}, {("on", "c"): ("off", {})},
        {("on", "ab"): ("off", {})}, {("on", "ba"): ("off", {})}, {("on", "X"): ("off", {})},
        {("a", "on"): ("off", {})}, {(1, "a"): ("off", {})}, {("on", 1): ("off", {})}, {("on", None): ("off", {})},
        {(Loud(), "a"): ("off", {})}, {("on", Loud()): ("off", {})}, {(("on",), "a"): ("off", {})},
        {("on", "a"): None}, {("on", "a"): ()}, {("on", "a"): "off"}, {("on", "a"): ("off",)},
        {("on", "a"): ("off", {}, {})}, {("on", "a"): {"off": {}}}, {("on", "a"): {"off": 1, "on": 2}},
        {("on", "a"): {"off", "on"}}, {("on", "a"): Loud()}, {("on", "a"): ("no", {})}, {("on", "a"): ("", {})},
        {("on", "a"): (None, {})}, {("on", "a"): (1, {})}, {("on", "a"): (["off"], {})},
        {("on", "a"): (Loud(), {})}, {("on", "a"): ({}, "off")},
        {("on", "a"): ("off", None)}, {("on", "a"): ("off", [])}, {("on", "a"): ("off", "")},
        {("on", "a"): ("off", [("X", "a")])}, {("on", "a"): ("off", Loud())},
        {("on", "a"): ("off", {"Z": "a"})}, {("on", "a"): ("off", {"Z": ""})}, {("on", "a"): ("off", {"": ""})},
        {("on", "a"): ("off", {"": "a"})}, {("on", "a"): ("off", {"XY": "a"})}, {("on", "a"): ("off", {"YX": ""})},
        {("on", "a"): ("off", {"x": "a"})}, {("on", "a"): ("off", {1: "a"})}, {("on", "a"): ("off", {None: ""})},
        {("on", "a"): ("off", {("X",): "a"})}, {("on", "a"): ("off", {Loud(): "a"})},
        {("on", "a"): ("off", {"X": None})}, {("on", "a"): ("off", {"X": 1})}, {("on", "a"): ("off", {"X": ["a"]})},
        {("on", "a"): ("off", {"X": b"a"})}, {("on", "a"): ("off", {"X": Loud()})},
        {("on", "a"): ("off", {"X": "Z"})}, {("on", "a"): ("off", {"X": "a b"})},
        {("on", "a"): ("off", {"X": "1"})}, {("on", "a"): ("off", {"X": "-"})}, {("on", "a"): ("off", {"X": "a\n"})},
        {("on", "a"): ("off", {"X": "XX"})}, {("on", "a"): ("off", {"X": "XaX"})},
        {("on", "a"): ("off", {"X": "X", "Y": "X"})}, {("on", "a"): ("off", {"X": "aYb", "Y": "XY"})},
        {("off", "b"): ("off", {}), ("on", "c"): ("off", {})}, {("off", "b"): ("off", {}), ("on", "a"): ("no", {})},
        {("off", "b"): ("off", {"X": "X"}), ("on", "a"): ("off", {"X": "YY"})},
    ],
    "ends": [
        *ODD, [], (), "", "on", [("on", "X")],
        {"no": "X"}, {"": "X"}, {1: "X"}, {None: ""}, {("on",): "X"}, {Loud(): "X"}, {"ON": "X"},
        {"on": None}, {"on": 1}, {"on": True}, {"on": ["X"]}, {"on": ("X",)}, {"on": {"X": "a"}}, {"on": Loud()},
        {"on": b"X"}, {"on": "Z"}, {"on": "XX"}, {"on": "XYX"}, {"on": "X Y"}, {"on": "-"}, {"on": "1"},
        {"on": "X\n"}, {"on": "X", "off": "Z"}, {"on": "X", "no": "X"},
    ],
}


class WrongParts(unittest.TestCase):
    def refused(self, changed):
        with self.assertRaises(BadProgram) as caught:
            Program(**{**parts(), **changed})
        self.assertIsInstance(caught.exception, BoxError)
        return caught.exception.part

    def test_each_part_alone(self):
        for part, values in WRONG.items():
            for at, value in enumerate(values):
                with self.subTest(part=part, at=at):
                    self.assertEqual(self.refused({part: value}), part)

    def test_first_of_two_wrong_parts(self):
        for one, two in itertools.combinations(list(WRONG), 2):
            for value in WRONG[one]:
                for other in WRONG[two]:
                    self.assertEqual(self.refused({one: value, two: other}), one)

    def test_all_parts_wrong(self):
        with self.assertRaises(BadProgram) as caught:
            Program(None, None, None, None, None)
        self.assertEqual(caught.exception.part, "letters")

    def test_parts_that_no_longer_fit(self):
        self.assertEqual(self.refused({"letters": "a"}), "moves")
        self.assertEqual(self.refused({"boxes": "X"}), "moves")
        self.assertEqual(self.refused({"boxes": "X", "moves": {}}), "ends")
        self.assertEqual(self.refused({"places": ["on"]}), "moves")
        self.assertEqual(self.refused({"places": ["on"], "moves": {}}), "ends")

    def test_wrong_parts_stay_as_they_are(self):
        for part in ["places", "moves", "ends"]:
            for value in WRONG[part]:
                if isinstance(value, (list, dict)) and "Loud" not in repr(value):
                    before = copy.deepcopy(value)
                    self.refused({part: value})
                    self.assertEqual(value, before)


class RightParts(unittest.TestCase):
    def test_properties(self):
        program = Program(**parts())
        self.assertEqual(program.letters, "ab")
        self.assertEqual(program.boxes, "XY")
        self.assertEqual(program.places, ("on", "off"))
        self.assertIsInstance(program.places, tuple)

    def test_moves(self):
        program = Program(**parts())
        self.assertEqual(program.move("on", "a"), ("off", {"Y": "aYb"}))
        self.assertEqual(program.move("off", "b"), ("on", {"X": "Y", "Y": "zX"}))
        self.assertEqual(list(program.move("off", "b")[1]), ["X", "Y"])
        self.assertEqual(program.move("off", "a"), ("off", {}))
        self.assertIsNone(program.move("on", "b"))
        self.assertIsInstance(program.move("on", "a"), tuple)
        self.assertEqual(program.move(letter="a", place="on"), ("off", {"Y": "aYb"}))

    def test_ends(self):
        program = Program("a", "X", ["on", "off", "none"], {}, {"off": "Xq", "on": ""})
        self.assertEqual(program.end("off"), "Xq")
        self.assertEqual(program.end("on"), "")
        self.assertIsNone(program.end("none"))
        self.assertEqual(program.end(place="off"), "Xq")

    def test_by_position_and_with_tuples_for_lists_and_lists_for_tuples(self):
        told = parts()
        program = Program(told["letters"], told["boxes"], told["places"], told["moves"], told["ends"])
        moves = {key: list(move) for key, move in told["moves"].items()}
        self.assertEqual(program, Program("ab", "XY", ("on", "off"), moves, told["ends"]))
        self.assertIsInstance(Program("ab", "XY", ("on", "off"), moves, {}).move("on", "a"), tuple)

    def test_kinds_of_dicts(self):
        told = parts()
        moves = collections.OrderedDict(told["moves"])
        ends = collections.defaultdict(str, told["ends"])
        self.assertEqual(Program("ab", "XY", ["on", "off"], moves, ends), Program(**told))
        self.assertEqual(dict(ends), told["ends"])

    def test_edges(self):
        self.assertEqual(Program("z", "", ["a"], {}, {}).boxes, "")
        self.assertEqual(Program("edcba", "", ["a"], {}, {}).letters, "abcde")
        self.assertEqual(Program("a", "FEDCBA", ["a"], {}, {}).boxes, "ABCDEF")
        self.assertEqual(Program("a", "Z", ["abcdefgh", "a"], {}, {}).places, ("abcdefgh", "a"))
        names = [f"{a}{b}" for a, b in itertools.product("abcde", "abcdefghij")]
        self.assertEqual(len(names), 50)
        self.assertEqual(Program("a", "", names, {}, {}).places, tuple(names))
        self.assertEqual(Program("a", "", ["a"], {("a", "a"): ("a", {})}, {"a": "xyz"}).move("a", "a"), ("a", {}))

    def test_fillings_of_other_letters(self):
        program = Program("a", "X", ["on"], {("on", "a"): ("on", {"X": "azXy"})}, {"on": "zXz"})
        self.assertEqual(program.move("on", "a"), ("on", {"X": "azXy"}))
        self.assertEqual(program.end("on"), "zXz")

    def test_a_letter_may_stand_in_several_fillings(self):
        moves = {("on", "a"): ("on", {"X": "aaYa", "Y": "aXa"})}
        self.assertEqual(Program("a", "XY", ["on"], moves, {}).move("on", "a"), ("on", {"X": "aaYa", "Y": "aXa"}))

    def test_fillings_of_three_hundred_signs(self):
        long = "a" * 150 + "X" + "b" * 149
        program = Program("a", "X", ["on"], {("on", "a"): ("on", {"X": long})}, {"on": long})
        self.assertEqual(program.move("on", "a"), ("on", {"X": long}))
        self.assertEqual(program.end("on"), long)

    def test_immutable(self):
        program = Program(**parts())
        for name in ["letters", "boxes", "places"]:
            with self.assertRaises(AttributeError):
                setattr(program, name, "c")

    def test_methods_are_defined_in_the_class(self):
        for name in ["__init__", "letters", "boxes", "places", "move", "end", "__eq__", "text", "parse"]:
            self.assertIn(name, vars(Program))


class Copies(unittest.TestCase):
    def test_what_is_passed_may_be_changed(self):
        told = parts()
        program = Program(**told)
        text = program.text()
        told["places"].append("more")
        told["places"][0] = "else"
        told["moves"][("on", "a")][1]["X"] = "b"
        told["moves"][("on", "b")] = ("on", {})
        del told["moves"][("off", "a")]
        told["ends"]["on"] = "X"
        self.assertEqual(program.text(), text)
        self.assertEqual(program, Program(**parts()))
        self.assertEqual(program.places, ("on", "off"))

    def test_lists_that_are_passed_for_pairs_may_be_changed(self):
        pair = ["off", {"X": "a"}]
        program = Program("a", "X", ["on", "off"], {("on", "a"): pair}, {})
        pair[0] = "on"
        pair[1] = {}
        self.assertEqual(program.move("on", "a"), ("off", {"X": "a"}))

    def test_what_is_passed_is_not_modified(self):
        told = parts()
        Program(**told)
        self.assertEqual(told, parts())
        self.assertEqual(list(told["moves"][("on", "a")][1]), ["Y", "X"])

    def test_what_is_returned_may_be_changed(self):
        program = Program(**parts())
        program.move("on", "a")[1]["X"] = "b"
        program.move("on", "a")[1].clear()
        self.assertEqual(program.move("on", "a"), ("off", {"Y": "aYb"}))
        self.assertIsNot(program.move("on", "a")[1], program.move("on", "a")[1])
        self.assertEqual(program, Program(**parts()))


class Equality(unittest.TestCase):
    def unlike(self, changed):
        one = Program(**parts())
        two = Program(**{**parts(), **changed})
        self.assertFalse(one == two)
        self.assertFalse(two == one)
        self.assertTrue(one != two)

    def test_equal(self):
        one = Program(**parts())
        two = Program(
            "ab",
            "XY",
            ("on", "off"),
            {
                ("off", "a"): ("off", {"X": "", "Y": ""}),
                ("off", "b"): ("on", {"X": "Y", "Y": "zX"}),
                ("on", "a"): ("off", {"Y": "aYb"}),
            },
            {"on": "", "off": "XqY"},
        )
        self.assertTrue(one == two)
        self.assertFalse(one != two)
        self.assertTrue(one == one)

    def test_each_part_counts(self):
        self.unlike({"letters": "abc"})
        self.unlike({"boxes": "XYZ"})
        self.unlike({"places": ["off", "on"]})
        self.unlike({"places": ["on", "off", "more"]})
        self.unlike({"moves": {}})
        self.unlike({"moves": {**parts()["moves"], ("on", "b"): ("on", {})}})
        self.unlike({"moves": {**parts()["moves"], ("off", "a"): ("on", {})}})
        self.unlike({"moves": {**parts()["moves"], ("off", "a"): ("off", {"X": "X"})}})
        self.unlike({"ends": {}})
        self.unlike({"ends": {"off": "XqY"}})
        self.unlike({"ends": {"off": "YqX", "on": ""}})

    def test_values_of_other_kinds(self):
        program = Program(**parts())
        for other in [None, 1, True, program.text(), (), [], parts(), object(), Program]:
            self.assertFalse(program == other)
            self.assertTrue(program != other)

    def test_same_attributes_are_not_enough(self):
        program = Program(**parts())

        class Other:
            letters, boxes, places = program.letters, program.boxes, program.places

        other = Other()
        vars(other).update(vars(program))
        self.assertFalse(program == other)
        self.assertTrue(program != other)

    def test_deterministic(self):
        self.assertEqual(Program(**parts()).text(), Program(**parts()).text())


if __name__ == "__main__":
    unittest.main()
