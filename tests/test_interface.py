"""The interface: where its names are, and that parameters may be passed by their names, in any order."""

import importlib
import inspect
import unittest

from textboxes import errors
from textboxes.known import backward, exchanging, plain, sorting
from textboxes.programs import Program
from textboxes.readers import Reader
from textboxes.tables import Table

RIGHT = {
    "letters": "ab", "boxes": "X", "places": ["on"], "moves": {("on", "a"): ("on", {"X": "Xb"})}, "ends": {"on": "X"},
}
TABLE = {
    "letters": "ab", "places": ["s", "t"], "moves": {("s", "a"): "t", ("t", "b"): "s", ("s", "b"): "s"}, "good": ["t"],
}
ONE = exchanging("ab", "b")
MANY = [("a", 10), ("b", 1), ("ab", 10 ** 30)]
# For each function its parameters, in order, with arguments for them.
FUNCTIONS = {
    "runs": {"told": {"program": ONE, "text": "aba"}, "behind": {"program": ONE, "text": "aba"}},
    "makers": {
        "told_by": {"program": ONE, "table": {"a": "xy"}},
        "led_by": {"program": ONE, "table": {"a": "ab"}},
        "turned": {"program": ONE},
        "joined": {"one": ONE, "two": plain("ab")},
        "either": {"one": ONE, "two": plain("ab")},
        "within": {"program": ONE, "table": Table(**TABLE)},
    },
    "great": {
        "great_place": {"program": ONE, "parts": MANY},
        "great_length": {"program": ONE, "parts": MANY},
        "great_letters": {"program": ONE, "parts": MANY},
        "great_piece": {"program": ONE, "parts": MANY, "first": 3, "length": 40},
    },
    "likes": {
        "marks": {"program": ONE, "text": "aba"},
        "alike": {"one": ONE, "two": plain("ab")},
        "enough": {"one": ONE, "two": plain("ab")},
        "is_enough": {"one": ONE, "two": plain("ab"), "texts": ["", "a"]},
    },
    "tables": {"are_alike": {"one": Table(**TABLE), "other": Table("ab", ["s"], {}, ["s"])}},
    "ends": {
        "not_always": {"program": ONE, "table": Table(**TABLE)},
        "where": {"program": ONE, "table": Table(**TABLE)},
        "told_at_all": {"program": ONE},
    },
    "gaps": {"gap": {"one": ONE, "two": sorting("ab", "a"), "worths": {"a": 2}}},
    "boxes": {
        "needed": {"program": ONE},
        "cleared": {"program": ONE},
        "unequal": {"program": ONE, "one": "X", "other": "Y"},
        "always_has": {"program": ONE, "box": "Y"},
    },
    "counts": {"all_told": {"program": ONE}, "lengths": {"program": ONE, "many": 3}},
    "whence": {
        "origins": {"program": ONE, "text": "abab"},
        "great_origin": {"program": ONE, "parts": MANY, "index": 11},
    },
    "marked": {"unlike_origins": {"one": plain("ab"), "two": backward("ab")}},
    "known": {
        "plain": {"letters": "ba"},
        "backward": {"letters": "ba"},
        "exchanging": {"letters": "ba", "sign": "b"},
        "sorting": {"letters": "ba", "sign": "b"},
        "halving": {"letters": "ba"},
        "late": {"letters": "ba", "sign": "b"},
    },
}
METHODS = {
    ("programs", "Program"): ["letters", "boxes", "places", "move", "end", "__eq__", "text", "parse", "__init__"],
    ("readers", "Reader"): ["program", "read", "text", "state", "told", "undo", "again", "__init__"],
    ("tables", "Table"): ["letters", "places", "good", "ways", "step", "__eq__", "takes", "least", "shortest", "both", "either",
                          "others", "__init__"],
}


def by_name(thing, named):
    """What comes if parameters are passed by their names, the last one ahead."""
    return thing(**dict(reversed(named.items())))


class Interface(unittest.TestCase):
    def test_functions_stand_in_their_files(self):
        for module, functions in FUNCTIONS.items():
            for name, named in functions.items():
                found = getattr(importlib.import_module(f"textboxes.{module}"), name)
                self.assertTrue(inspect.isfunction(found))
                self.assertEqual([found.__module__, found.__name__], [f"textboxes.{module}", name])
                self.assertEqual(list(inspect.signature(found).parameters), list(named))

    def test_functions_by_name(self):
        for module, functions in FUNCTIONS.items():
            for name, named in functions.items():
                found = getattr(importlib.import_module(f"textboxes.{module}"), name)
                self.assertEqual(by_name(found, named), found(*named.values()), name)
                self.assertEqual(by_name(found, named), found(*named.values()), name)

    def test_methods_stand_in_their_classes(self):
        for (module, name), methods in METHODS.items():
            found = getattr(importlib.import_module(f"textboxes.{module}"), name)
            self.assertEqual(found.__module__, f"textboxes.{module}")
            for method in methods:
                self.assertIn(method, vars(found))

    def test_programs_by_name(self):
        program = by_name(Program, RIGHT)
        self.assertTrue(program == Program(*RIGHT.values()))
        self.assertEqual(by_name(program.move, {"place": "on", "letter": "a"}), program.move("on", "a"))
        self.assertEqual(program.end(place="on"), "X")
        self.assertTrue(Program.parse(text=program.text()) == program)

    def test_tables_by_name(self):
        table = by_name(Table, TABLE)
        self.assertTrue(table == Table(*TABLE.values()))
        self.assertEqual(by_name(table.step, {"place": "s", "letter": "a"}), "t")
        self.assertEqual(table.takes(text="baba"), table.takes("baba"))
        self.assertTrue(table.both(other=table) == table.either(other=table) == table.least())

    def test_readers_by_name(self):
        reader = Reader(program=ONE)
        self.assertTrue(reader.program == ONE)
        self.assertEqual(reader.read(text="aba"), "aba")

    def test_errors_by_name(self):
        self.assertEqual(errors.BadTable(place="letters").place, "letters")
        self.assertEqual(errors.BadPiece(number=3).number, 3)

    def test_results_that_are_new(self):
        for module, functions in FUNCTIONS.items():
            for name, named in functions.items():
                found = getattr(importlib.import_module(f"textboxes.{module}"), name)
                first = found(*named.values())
                if isinstance(first, (list, dict)):
                    kept = type(first)(first)
                    self.assertIsNot(found(*named.values()), first)
                    first.clear()
                    self.assertEqual(found(*named.values()), kept)

    def test_lists_for_tuples_and_tuples_for_lists(self):
        self.assertTrue(Program("ab", "X", ("on",), {("on", "a"): ["on", {"X": "Xb"}]}, {"on": "X"}) == Program(**RIGHT))
        self.assertTrue(Table("ab", ("s", "t"), TABLE["moves"], ("t",)) == Table(**TABLE))
        for module, name, place in [("likes", "is_enough", "texts"), ("great", "great_piece", "parts"),
                                    ("whence", "great_origin", "parts")]:
            found = getattr(importlib.import_module(f"textboxes.{module}"), name)
            named = FUNCTIONS[module][name]
            other = tuple(list(part) if isinstance(part, tuple) else part for part in named[place])
            self.assertEqual(found(**{**named, place: other}), found(**named))


class WhatIsPassed(unittest.TestCase):
    def test_tables_may_be_changed_later(self):
        places, moves, good = ["s", "t"], dict(TABLE["moves"]), ["t"]
        table = Table("ab", places, moves, good)
        whole = table.least()
        places.append("u")
        moves.clear()
        good.clear()
        self.assertTrue(table == Table(**TABLE))
        self.assertTrue(table.least() == whole)

    def test_arguments_stay(self):
        programs = [(program, program.text()) for program in [ONE, plain("ab"), sorting("ab", "a")]]
        for module, functions in FUNCTIONS.items():
            for name, named in functions.items():
                before = {key: repr(thing) for key, thing in named.items() if isinstance(thing, (list, dict))}
                getattr(importlib.import_module(f"textboxes.{module}"), name)(**named)
                self.assertEqual({key: repr(named[key]) for key in before}, before)
        for program, text in programs:
            self.assertEqual(program.text(), text)


if __name__ == "__main__":
    unittest.main()
