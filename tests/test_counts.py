"""Point 19: all texts that are told, and how long they are."""

import itertools
import random
import unittest

from tests.made import Kit, plainly_told, program_of, put_together, small_program, small_table, texts_up_to
from textboxes.counts import all_told, lengths
from textboxes.errors import BadNumber
from textboxes.known import backward, exchanging, halving, late, plain, sorting
from textboxes.makers import either, joined, led_by, told_by, turned, within
from textboxes.programs import Program
from textboxes.tables import Table

NOTHING = Program("ab", "", ["on"], {}, {})
NO_END = Program("ab", "X", ["on"], {("on", "a"): ("on", {"X": "Xa"}), ("on", "b"): ("on", {})}, {})
LETTERS = "abcdefghijklmnopqrstuvwxyz"
NAMES = [f"p{LETTERS[k // 26]}{LETTERS[k % 26]}" for k in range(50)]


def finite_program(chance, letters, boxes, many_places, signs):
    """A program in which no letters are put in rings: what it tells is finite."""
    names = NAMES[:many_places]
    moves = {}
    for at, place in enumerate(names):
        for letter in letters:
            stays = chance.random() < 0.25 or at == many_places - 1
            fillings = {box: [] for box in boxes}
            for box in boxes:
                if chance.random() < 0.9:
                    fillings[chance.choice([box, chance.choice(boxes)])].append(box)
            for box in boxes:
                if not stays:
                    fillings[box].append("".join(chance.choices(signs, k=chance.randrange(3))))
                chance.shuffle(fillings[box])
            target = place if stays else names[min(many_places - 1, at + chance.randint(1, 2))]
            if chance.random() < 0.9:
                moves[(place, letter)] = (target, {box: "".join(found) for box, found in fillings.items()})
    ends = {}
    for place in names:
        if chance.random() < 0.6:
            parts = [box for box in boxes if chance.random() < 0.7] + [chance.choice(signs)]
            ends[place] = "".join(chance.sample(parts, len(parts)))
    return Program(letters, boxes, names, moves, ends)


def told_of_all_states(program, most):
    """All that is told in any state, or None if there are more states than so many."""
    first = (program.places[0], tuple("" for _ in program.boxes))
    states, found = {first: True}, set()
    for place, held in iter_growing(states):
        if len(states) > most:
            return None
        texts = dict(zip(program.boxes, held))
        if program.end(place) is not None:
            found.add(put_together(program.end(place), texts))
        for letter in program.letters:
            move = program.move(place, letter)
            if move is not None:
                states[(move[0], tuple(put_together(move[1].get(box, ""), texts) for box in program.boxes))] = True
    return found


def iter_growing(states):
    """The keys of a dict that grows meanwhile."""
    done = 0
    while done < len(states):
        for state in list(states)[done:]:
            done += 1
            yield state


class AllTold(Kit):
    def test_programs_that_refuse_everything(self):
        self.assertEqual(all_told(NOTHING), [])
        self.assertEqual(all_told(NO_END), [])
        self.assertEqual(all_told(within(plain("ab"), Table("ab", ["on"], {}, []))), [])

    def test_programs_that_tell_one_text_only(self):
        self.assertEqual(all_told(Program("ab", "", ["on"], {}, {"on": ""})), [""])
        self.assertEqual(all_told(Program("a", "X", ["on"], {("on", "a"): ("on", {"X": "Xa"})}, {"on": "abc"})), ["abc"])
        self.assertEqual(all_told(told_by(plain("ab"), {"a": "", "b": ""})), [""])
        moves = {("p", "a"): ("q", {"X": "xy"}), ("q", "a"): ("q", {"X": "X"})}
        self.assertEqual(all_told(Program("a", "X", ["p", "q"], moves, {"q": "Xz"})), ["xyz"])

    def test_endless_programs(self):
        self.assertIsNone(all_told(plain("a")))
        for program in [backward("ab"), exchanging("ab", "b"), sorting("ab", "a"), halving("ab"), late("ab", "a")]:
            self.assertIsNone(all_told(program))
            self.assertIsNone(all_told(told_by(turned(program), {"a": "", "b": "b"})))
        # It grows only by a letter that is read behind another one.
        moves = {("p", "a"): ("q", {"X": "X"}), ("q", "b"): ("q", {"X": "X", "Y": "aY"}), ("q", "a"): ("p", {"X": "XY"})}
        self.assertIsNone(all_told(Program("ab", "XY", ["p", "q"], moves, {"p": "X"})))
        self.assertEqual(all_told(Program("ab", "XY", ["p", "q"], moves, {"q": "X"})), None)
        moves[("q", "a")] = ("p", {"X": "X"})
        self.assertEqual(all_told(Program("ab", "XY", ["p", "q"], moves, {"p": "X"})), [""])

    def test_boxes_that_grow_without_being_told(self):
        moves = {("p", "a"): ("p", {"X": "Xa", "Y": "Y"}), ("p", "b"): ("q", {"Y": "b", "X": "X"}), ("q", "b"): ("q", {
            "X": "Xb", "Y": "Y"})}
        self.assertEqual(all_told(Program("ab", "XY", ["p", "q"], moves, {"p": "Yz", "q": "zY"})), ["z", "zb"])

    def test_places_that_lead_nowhere(self):
        moves = {("p", "a"): ("p", {"X": "Xa"}), ("q", "a"): ("q", {"X": "Xa"}), ("p", "b"): ("r", {}), ("r", "a"): ("r", {
            "X": "Xb"})}
        self.assertEqual(all_told(Program("ab", "X", ["p", "q", "r"], moves, {"q": "X"})), [])
        moves[("p", "a")] = ("p", {})
        self.assertEqual(all_told(Program("ab", "X", ["p", "q", "r"], moves, {"q": "X", "p": "Xzz"})), ["zz"])

    def test_order(self):
        program = Program("abc", "X", ["p", "q"], {
            ("p", letter): ("q", {"X": text}) for letter, text in zip("abc", ["ba", "b", "ab"])
        }, {"p": "zzz", "q": "X"})
        self.assertEqual(all_told(program), ["b", "ab", "ba", "zzz"])

    def test_against_all_states(self):
        chance = random.Random(80)
        sizes = []
        while len(sizes) < 400:
            boxes = "XYZW"[:chance.randint(1, 4)]
            program = finite_program(chance, "abc"[:chance.randint(1, 3)], boxes, chance.randint(1, 7),
                                     chance.choice(["a", "ab"]))
            expected = told_of_all_states(program, 2000)
            if expected is not None:
                self.assertEqual(all_told(program), sorted(expected, key=lambda text: (len(text), text)))
                sizes.append(len(expected))
        self.assertGreater(len([size for size in sizes if size > 5]), 15)

    def test_against_short_texts(self):
        chance = random.Random(81)
        answers = {True: 0, False: 0}
        for _ in range(300):
            program = small_program(chance, "ab"[:chance.randint(1, 2)], 3)
            found = all_told(program)
            told = {plainly_told(program, text) for text in texts_up_to(program.letters, 9)} - {None}
            answers[found is None] += 1
            if found is not None:
                self.assertEqual(found, sorted(told, key=lambda text: (len(text), text)))
        self.assertGreater(min(answers.values()), 50)

    def test_few_texts_of_very_many_states(self):
        boxes = "ABCDEF"
        kept = {box: box for box in boxes}
        lines = [lambda at: boxes[at % 6], lambda at: boxes[at // 9]]
        for box_at in lines:
            moves = {
                (NAMES[at], letter): (NAMES[at + 1], {**kept, box_at(at): box_at(at) + "a" * many})
                for at in range(49) for many, letter in enumerate("abcde")
            }
            program = Program("abcde", boxes, NAMES, moves, {NAMES[49]: boxes})
            self.assertEqual(all_told(program), ["a" * many for many in range(197)])
        # Three letters for each box; then a letter tells which box is told.
        moves = {
            (NAMES[at], letter): (NAMES[at + 1], {**kept, boxes[at // 3]: boxes[at // 3] + letter})
            for at in range(18) for letter in "abcde"
        }
        moves.update({(NAMES[18], letter): (NAMES[19 + at], kept) for at, letter in enumerate("abcde")})
        program = Program("abcde", boxes, NAMES, moves, {NAMES[19 + at]: boxes[at] for at in range(5)})
        self.assertEqual(all_told(program), ["".join(text) for text in itertools.product("abcde", repeat=3)])

    def test_made_programs(self):
        chance = random.Random(82)
        for _ in range(30):
            one = finite_program(chance, "ab", "XY", 4, "ab")
            texts = all_told(one)
            self.assertEqual(all_told(turned(one)), sorted([text[::-1] for text in texts], key=lambda text: (len(text), text)))
            table = small_table(chance, "ab", 3)
            for made in [joined(one, turned(one)), either(one, NOTHING), within(one, table), led_by(one, {"a": "ab", "b": "b"})]:
                expected = {plainly_told(made, text) for text in texts_up_to("ab", 9)} - {None}
                self.assertEqual(set(all_told(made)), expected)
            long = told_by(told_by(one, {"a": "ab" * 50}), {"a": "a" * 100, "b": "b" * 99})
            self.assertEqual(len(all_told(long)), len(texts))

    def test_lists_are_new(self):
        program = Program("a", "", ["on"], {}, {"on": "a"})
        all_told(program).clear()
        self.assertEqual(all_told(program=program), ["a"])


class Lengths(Kit):
    def plainly(self, program, many):
        found = {}
        for letters in itertools.product(program.letters, repeat=many):
            text = plainly_told(program, "".join(letters))
            if text is not None:
                found[len(text)] = found.get(len(text), 0) + 1
        return dict(sorted(found.items()))

    def check(self, program, most):
        for many in range(most + 1):
            found = lengths(program, many)
            self.assertEqual(list(found.items()), list(self.plainly(program, many).items()))

    def test_known_programs(self):
        self.assertEqual(lengths(plain("abcde"), 100), {100: 5 ** 100})
        self.assertEqual(lengths(halving("ab"), 99), {50: 2 ** 99})
        self.assertEqual(list(lengths(late("ab", "b"), 3).items()), [(0, 4), (3, 4)])
        self.assertEqual(lengths(exchanging("ab", "b"), 4), {4: 15})
        self.assertEqual(lengths(exchanging("ab", "b"), 0), {})
        self.assertEqual(lengths(plain("ab"), 0), {0: 1})
        for program in [plain("ab"), exchanging("abc", "b"), sorting("ab", "a"), halving("abc"), late("abc", "b")]:
            self.check(program, 5)

    def test_programs_that_refuse_everything(self):
        for program in [NOTHING, NO_END]:
            for many in [0, 1, 100]:
                self.assertEqual(lengths(program, many), {})

    def test_each_number_of_letters(self):
        program = told_by(plain("ab"), {"a": "", "b": "bbb"})
        found = lengths(program, 100)
        self.assertEqual(list(found), [3 * many for many in range(101)])
        self.assertEqual(sum(found.values()), 2 ** 100)
        self.assertEqual([found[0], found[3], found[6], found[297], found[300]], [1, 100, 4950, 100, 1])
        digits = led_by(told_by(plain("abcde"), {"a": "", "c": "cc", "d": "d" * 7, "e": "e" * 100}), {
            letter: letter for letter in "abcde"})
        self.assertEqual(sum(lengths(digits, 100).values()), 5 ** 100)
        self.check(digits, 4)

    def test_against_what_is_told(self):
        chance = random.Random(83)
        for _ in range(150):
            self.check(small_program(chance, "abc"[:chance.randint(1, 3)], 3), 4)
        for _ in range(10):
            self.check(program_of(chance, "abc", "XYZ", 6), 5)

    def test_made_programs(self):
        chance = random.Random(84)
        for _ in range(20):
            one, two = small_program(chance, "ab", 1, 2), small_program(chance, "ab", 1, 2)
            for made in [joined(one, two), either(one, turned(two)), within(one, small_table(chance, "ab", 2)),
                         led_by(told_by(one, {"a": "xyz" * 33}), {"a": "ab", "c": ""})]:
                self.check(made, 4)
        long = told_by(told_by(plain("ab"), {"a": "a" * 100, "b": "b" * 99}), {"a": "a" * 100, "b": "b" * 98})
        self.assertEqual(sum(lengths(long, 100).values()), 2 ** 100)
        self.assertEqual(list(lengths(long, 2)), [2 * 99 * 98, 99 * 98 + 10000, 20000])

    def test_wrong_numbers(self):
        for wrong in [-1, 101, 10 ** 30, -(10 ** 30), None, True, False, "1", 1.0, 0.0, [1], (), {}, object()]:
            self.assertIs(self.raised(BadNumber, lengths, plain("a"), wrong).number, wrong)

    def test_dicts_are_new(self):
        lengths(plain("a"), 1).clear()
        self.assertEqual(lengths(many=1, program=plain("a")), {1: 1})


if __name__ == "__main__":
    unittest.main()
