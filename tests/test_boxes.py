"""Points 12, 13 and 18: boxes that are needed, always equal, or always have the same text."""

import random
import unittest

from tests.made import (
    Kit, parts_for, plainly_behind, plainly_told, program_of, some_program, texts_up_to, with_a_place_twice,
)
from textboxes.boxes import always_has, cleared, needed, unequal
from textboxes.errors import BadBox
from textboxes.known import backward, exchanging, halving, plain, sorting
from textboxes.likes import alike
from textboxes.makers import joined, told_by, turned, within
from textboxes.programs import Program
from textboxes.tables import Table

NOTHING = Program("ab", "X", ["on"], {}, {})
NO_BOXES = Program("ab", "", ["on"], {("on", "a"): ("on", {})}, {"on": "ab"})


def followed(program, box, place, text):
    """Whether what a box has at a place is put into what is told, if a text is read from there on."""
    held = {box}
    for letter in text:
        move = program.move(place, letter)
        if move is None:
            return False
        place, fillings = move
        held = {target for target, filling in fillings.items() if any(one in filling for one in held)}
    return any(one in (program.end(place) or "") for one in held)


def mirrored(chance, letters, many_places, commuting=False):
    """A program in which X and Y are always equal: each gets what the other one gets, and they are exchanged."""
    places = ["p", "q", "r", "s"][:many_places]
    moves = {}
    for place in places:
        for letter in letters:
            ahead, behind = [chance.choice(["", "a", "b", "ab"]) for _ in range(2)]
            if commuting:
                ahead, behind = "ab" * chance.randrange(3), "ab" * chance.randrange(3)
            one, other = chance.choice(["XY", "YX"])
            there = behind + one + ahead if commuting else ahead + one + behind
            moves[(place, letter)] = (chance.choice(places), {"X": ahead + other + behind, "Y": there, "Z": "cZ"})
    return Program(letters, "XYZ", places, moves, {places[-1]: "Z"})


class Needed(Kit):
    def test_known_programs(self):
        self.assertEqual(needed(plain("ab")), {"on": "X"})
        self.assertEqual(needed(exchanging("ab", "a")), {"ahead": "X", "behind": "XY"})
        self.assertEqual(list(needed(exchanging("ab", "a"))), ["ahead", "behind"])
        self.assertEqual(needed(NOTHING), {"on": ""})
        self.assertEqual(needed(NO_BOXES), {"on": ""})

    def test_boxes_that_follow_others(self):
        moves = {("p", "a"): ("q", {"X": "Y", "Z": "XZ"}), ("q", "a"): ("r", {"X": "Xa", "Y": "ZY"}), ("q", "b"): ("q", {})}
        program = Program("ab", "ZXY", ["r", "q", "p", "no"], moves, {"r": "aY"})
        self.assertEqual(list(needed(program).items()), [("r", "Y"), ("q", "YZ"), ("p", "XZ"), ("no", "")])

    def test_places_that_are_not_reached(self):
        moves = {("on", "a"): ("on", {"X": "X"}), ("off", "a"): ("on", {"X": "Y"}), ("lost", "a"): ("lost", {"X": "X"})}
        program = Program("a", "XY", ["on", "off", "lost"], moves, {"on": "X"})
        self.assertEqual(needed(program), {"on": "X", "off": "Y", "lost": ""})
        self.assertEqual(cleared(program).boxes, "XY")

    def test_against_all_short_texts(self):
        chance = random.Random(60)
        for _ in range(80):
            program = program_of(chance, "ab", "XYZ"[:chance.randint(0, 3)], chance.randint(1, 3))
            texts = texts_up_to("ab", 5)
            expected = {
                place: "".join(box for box in program.boxes if any(followed(program, box, place, text) for text in texts))
                for place in program.places
            }
            self.assertEqual(needed(program), expected)

    def test_cleared(self):
        moves = {("p", "a"): ("q", {"X": "Y", "Z": "Z"}), ("q", "a"): ("p", {"X": "Xa", "Y": "Yb"})}
        program = Program("a", "XYZ", ["p", "q"], moves, {"q": "aX"})
        self.assertEqual(needed(program), {"p": "Y", "q": "XY"})
        kept = {("p", "a"): ("q", {"X": "Y"}), ("q", "a"): ("p", {"Y": "Yb"})}
        self.assertEqual(cleared(program), Program("a", "XY", ["p", "q"], kept, {"q": "aX"}))
        self.assertEqual(cleared(plain("ab")), plain("ab"))
        self.assertEqual(cleared(NOTHING), Program("ab", "", ["on"], {}, {}))
        self.assertEqual(cleared(Program("a", "XY", ["p"], {("p", "a"): ("p", {"X": "YX", "Y": "a"})}, {"p": "b"})),
                         Program("a", "", ["p"], {("p", "a"): ("p", {})}, {"p": "b"}))

    def test_cleared_by_the_words(self):
        chance = random.Random(61)
        for _ in range(100):
            program = some_program(chance)
            found = cleared(program)
            wanted = needed(program)
            moves, ends = parts_for(program)
            kept = {
                key: (target, {box: filling for box, filling in fillings.items() if box in wanted[target]})
                for key, (target, fillings) in moves.items()
            }
            boxes = "".join(sorted(set("".join(wanted.values()))))
            self.assertEqual(found, Program(program.letters, boxes, program.places, kept, ends))
            self.assertEqual(needed(found), wanted)
            self.assertEqual(cleared(found), found)
            for text in texts_up_to(program.letters, 3):
                self.assertEqual(plainly_told(found, text), plainly_told(program, text))

    def test_cleared_programs_are_alike(self):
        chance = random.Random(62)
        for _ in range(40):
            program = program_of(chance, "ab", "XYZ", 3)
            self.assertIsNone(alike(program, cleared(program)))
            self.assertIsNone(alike(joined(plain("ab"), turned(plain("ab"))), cleared(joined(plain("ab"), backward("ab")))))

    def test_dicts_are_new(self):
        program = exchanging("ab", "a")
        needed(program).clear()
        needed(program)["ahead"] = ""
        self.assertEqual(needed(program=program), {"ahead": "X", "behind": "XY"})
        self.assertEqual(cleared(program=program), program)


class Equal(Kit):
    def check(self, program, one, other, most=5):
        unlike = [
            text for text in texts_up_to(program.letters, most)
            if plainly_behind(program, text) is not None
            and plainly_behind(program, text)[1][one] != plainly_behind(program, text)[1][other]
        ]
        found = unequal(program, one, other)
        if unlike:
            self.assertEqual(len(found), len(unlike[0]))
            self.assertIn(found, unlike)
        elif found is not None:
            self.assertGreater(len(found), most)
            self.assertNotEqual(*[plainly_behind(program, found)[1][box] for box in [one, other]])
        return found

    def test_known_programs(self):
        self.assertIn(unequal(sorting("ab", "a"), "X", "Y"), ["a", "b"])
        self.assertEqual(unequal(exchanging("ab", "b"), "X", "Y"), "a")
        self.assertIsNone(unequal(plain("ab"), "X", "X"))
        self.assertIsNone(unequal(NOTHING, "X", "X"))

    def test_boxes_that_are_exchanged(self):
        one = Program("a", "XY", ["on"], {("on", "a"): ("on", {"X": "Ya", "Y": "Xa"})}, {})
        self.assertIsNone(unequal(one, "X", "Y"))
        other = Program("a", "XY", ["on"], {("on", "a"): ("on", {"X": "Ya", "Y": "aX"})}, {"on": "X"})
        self.assertIsNone(unequal(other, "Y", "X"))
        other = Program("ab", "XY", ["on"], {("on", "a"): ("on", {"X": "Ya", "Y": "aX"}), ("on", "b"): ("on", {"X": "Xb",
                        "Y": "Yb"})}, {"on": "X"})
        self.assertEqual(len(self.check(other, "X", "Y")), 2)

    def test_boxes_that_are_equal_at_some_places_only(self):
        moves = {("p", "a"): ("q", {"X": "a", "Y": "b"}), ("q", "a"): ("p", {}), ("p", "b"): ("p", {"X": "Xb", "Y": "Yb"})}
        self.assertEqual(self.check(Program("ab", "XY", ["p", "q"], moves, {}), "X", "Y"), "a")
        moves[("p", "a")] = ("q", {"X": "aX", "Y": "aY", "Z": "b"})
        moves[("q", "a")] = ("p", {"X": "XZ", "Y": "Yb"})
        self.assertIsNone(self.check(Program("ab", "XYZ", ["p", "q"], moves, {}), "X", "Y"))
        self.assertEqual(self.check(Program("ab", "XYZ", ["p", "q"], moves, {}), "Z", "Y"), "a")

    def test_boxes_that_are_unequal_only_behind_long_texts(self):
        names = ["abcdefghijklmnopqrst"[k] for k in range(20)]
        moves = {(name, "a"): (names[(at + 1) % 20], {"X": "Xab", "Y": "Yab", "Z": "bZ"}) for at, name in enumerate(names)}
        self.assertIsNone(unequal(Program("a", "XYZ", names, moves, {}), "X", "Y"))
        moves[(names[19], "a")] = (names[0], {"X": "Xba", "Y": "Yab"})
        self.assertEqual(unequal(Program("a", "XYZ", names, moves, {}), "X", "Y"), "a" * 20)
        moves[(names[19], "a")] = (names[0], {"X": "XabZ", "Y": "YZab"})
        with self.assertRaises(ValueError):
            Program("a", "XYZ", names, moves, {})

    def test_mirrored_boxes(self):
        chance = random.Random(63)
        for many in range(60):
            program = mirrored(chance, "ab", chance.randint(1, 4), many % 2 == 0)
            self.assertIsNone(unequal(program, "X", "Y"))
            self.assertIsNone(unequal(with_a_place_twice(chance, program), "Y", "X"))
            self.check(program, "X", "Z", 3)

    def test_against_all_short_texts(self):
        chance = random.Random(64)
        lengths = []
        for _ in range(200):
            program = program_of(chance, "ab"[:chance.randint(1, 2)], "XYZ", chance.randint(1, 4))
            one, other = chance.sample("XYZ", 2)
            found = self.check(program, one, other)
            lengths.append(None if found is None else len(found))
        self.assertGreater(len(set(lengths)), 2)

    def test_wrong_boxes(self):
        program = exchanging("ab", "a")
        for wrong in ["Z", "x", "", "XY", None, 1, True, ["X"], ("X",), b"X", object()]:
            self.assertIs(self.raised(BadBox, unequal, program, wrong, "X").box, wrong)
            self.assertIs(self.raised(BadBox, unequal, program, "X", wrong).box, wrong)
            self.assertIs(self.raised(BadBox, unequal, program, wrong, "A").box, wrong)
            self.assertIs(self.raised(BadBox, always_has, program, wrong).box, wrong)
        self.assertEqual(self.raised(BadBox, unequal, NO_BOXES, "X", "Y").box, "X")
        self.assertEqual(self.raised(BadBox, always_has, NO_BOXES, "X").box, "X")

    def test_by_name(self):
        self.assertEqual(unequal(other="Y", one="X", program=exchanging("ab", "b")), "a")
        self.assertEqual(always_has(box="Y", program=exchanging("ab", "b")), {"ahead": "", "behind": None})


class Always(Kit):
    def check(self, program, box, most=6):
        texts = {}
        for text in texts_up_to(program.letters, most):
            state = plainly_behind(program, text)
            if state is not None:
                texts.setdefault(state[0], set()).add(state[1][box])
        expected = {place: found.pop() if len(found) == 1 else None for place, found in texts.items()}
        found = always_has(program, box)
        self.assertEqual(found, expected)
        self.assertEqual(list(found), [place for place in program.places if place in expected])
        return found

    def test_known_programs(self):
        self.assertEqual(self.check(exchanging("ab", "b"), "Y"), {"ahead": "", "behind": None})
        self.assertEqual(self.check(plain("ab"), "X"), {"on": None})
        self.assertEqual(self.check(halving("a"), "X"), {"take": None, "leave": None})
        self.assertEqual(always_has(NOTHING, "X"), {"on": ""})

    def test_places_that_texts_do_not_lead_to(self):
        moves = {("q", "a"): ("r", {"X": "ab"}), ("p", "a"): ("q", {"X": "a"}), ("r", "a"): ("q", {"X": "abX"})}
        program = Program("a", "X", ["p", "q", "r"], moves, {})
        self.assertEqual(list(always_has(program, "X").items()), [("p", ""), ("q", None), ("r", "ab")])
        program = Program("a", "X", ["q", "p", "r"], moves, {})
        self.assertEqual(list(always_has(program, "X").items()), [("q", None), ("r", "ab")])

    def test_always_the_same_though_other_boxes_are_not(self):
        # X and Y together always have three letters a at q, though each has one, or two.
        moves = {("p", "a"): ("o", {"X": "a", "Y": "aa"}), ("p", "b"): ("o", {"X": "aa", "Y": "a"}),
                 ("o", "a"): ("q", {"Z": "XY"}), ("o", "b"): ("q", {"Z": "YX"}), ("q", "a"): ("q", {"Z": "Z"})}
        program = Program("ab", "XYZ", ["p", "o", "q"], moves, {})
        self.assertEqual(self.check(program, "Z"), {"p": "", "o": "", "q": "aaa"})
        self.assertEqual(self.check(program, "X"), {"p": "", "o": None, "q": ""})
        moves[("q", "b")] = ("q", {"Z": "aZ"})
        self.assertEqual(self.check(Program("ab", "XYZ", ["p", "o", "q"], moves, {}), "Z"), {"p": "", "o": "", "q": None})

    def test_long_texts(self):
        names = ["abcdefghijklmnopqrst"[k] for k in range(20)]
        moves = {(name, "a"): (names[at + 1], {"X": "a" * 200 + "X" + "b" * 90}) for at, name in enumerate(names[:-1])}
        found = always_has(Program("a", "X", names, moves, {}), "X")
        self.assertEqual(found, {name: "a" * 200 * at + "b" * 90 * at for at, name in enumerate(names)})

    def test_against_all_short_texts(self):
        chance = random.Random(65)
        kinds = {True: 0, False: 0}
        for _ in range(150):
            program = program_of(chance, "ab"[:chance.randint(1, 2)], "XYZ", chance.randint(1, 4))
            for text in self.check(program, chance.choice("XYZ"), 7).values():
                kinds[text is None] += 1
        self.assertGreater(min(kinds.values()), 30)

    def test_made_programs(self):
        program = told_by(told_by(exchanging("ab", "b"), {"a": "ab" * 50}), {"b": "c" * 100})
        self.assertEqual(always_has(program, "X"), {"ahead": None, "behind": None})
        self.assertEqual(unequal(program, "X", "Y"), "a")
        one = within(turned(sorting("ab", "b")), Table("ab", ["s"], {("s", "a"): "s"}, ["s"]))
        self.assertEqual(sorted(str(found) for box in one.boxes for found in always_has(one, box).values()), ["", "None"])
        twice = joined(plain("ab"), plain("ab"))
        self.assertIsNone(unequal(twice, *twice.boxes))
        self.assertIsNone(unequal(joined(plain("a"), backward("a")), *twice.boxes))
        self.assertEqual(len(unequal(joined(plain("ab"), backward("ab")), *twice.boxes)), 2)

    def test_dicts_are_new(self):
        always_has(NOTHING, "X").clear()
        self.assertEqual(always_has(NOTHING, "X"), {"on": ""})


if __name__ == "__main__":
    unittest.main()
