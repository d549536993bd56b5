"""Points 11 and 14: whether two programs tell the same, and lists of texts that are enough to see it."""

import random
import unittest

from tests.made import (
    plainly_enough, plainly_told, program_of, small_program, texts_up_to, twin_of, with_a_place_twice,
    with_other_names,
)
from textboxes.errors import BoxError, OtherLetters
from textboxes.fields import first_primes
from textboxes.known import backward, exchanging, halving, late, plain, sorting
from textboxes.likes import alike, enough, is_enough
from textboxes.makers import either, joined, led_by, told_by, turned
from textboxes.programs import Program
from textboxes.runs import told
from textboxes.widths import text_of

NOTHING = Program("ab", "", ["on"], {}, {})
NO_END = Program("ab", "X", ["on"], {("on", "a"): ("on", {"X": "Xa"}), ("on", "b"): ("on", {})}, {})


def first_parted(one, two, most):
    """A shortest text with at most so many letters of which two programs do not tell the same, or None."""
    for text in texts_up_to(one.letters, most):
        if plainly_told(one, text) != plainly_told(two, text):
            return text
    return None


def by_length(texts):
    return sorted(set(texts), key=lambda text: (len(text), text))


class Alike(unittest.TestCase):
    def parted(self, one, two, length):
        """Check that a text of this length parts two programs, and that none does that is shorter."""
        found = alike(one, two)
        self.assertIsNotNone(found)
        self.assertEqual(len(found), length)
        self.assertNotEqual(plainly_told(one, found), plainly_told(two, found))
        self.assertEqual(len(alike(two, one)), length)

    def like(self, one, two):
        self.assertIsNone(alike(one, two))
        self.assertIsNone(alike(two, one))

    def test_known_programs(self):
        self.like(backward("ab"), turned(plain("ab")))
        self.parted(plain("ab"), backward("ab"), 2)
        self.like(plain("a"), backward("a"))
        self.assertEqual(alike(plain("ab"), sorting("ab", "a")), "ba")
        self.parted(exchanging("ab", "b"), plain("ab"), 0)
        self.parted(halving("ab"), plain("ab"), 2)
        self.parted(late("ab", "b"), plain("ab"), 1)
        self.like(turned(turned(exchanging("abc", "c"))), exchanging("abc", "c"))

    def test_five_letters(self):
        self.parted(plain("abcde"), backward("abcde"), 2)
        self.like(joined(plain("abcde"), backward("abcde")), turned(joined(plain("abcde"), backward("abcde"))))

    def test_programs_that_refuse_everything(self):
        self.like(NOTHING, NO_END)
        self.like(NOTHING, NOTHING)
        self.parted(NOTHING, plain("ab"), 0)
        self.parted(NO_END, Program("ab", "", ["on", "off"], {("on", "b"): ("off", {})}, {"off": ""}), 1)

    def test_empty_text_and_refused(self):
        told_empty = Program("ab", "", ["on"], {}, {"on": ""})
        self.parted(NOTHING, told_empty, 0)
        self.parted(plain("ab"), told_empty, 1)

    def test_long_shortest_texts(self):
        def counting(many, end):
            names = ["abcdefghijklmnopqrstuvwxyz"[k] for k in range(many)]
            moves = {(name, "a"): (names[(at + 1) % many], {"X": "aX"}) for at, name in enumerate(names)}
            return Program("a", "X", names, moves, {**{name: "X" for name in names}, names[-1]: end})

        self.like(counting(7, "X"), plain("a"))
        self.parted(counting(7, "Xa"), plain("a"), 6)
        self.parted(counting(7, ""), counting(5, ""), 4)
        self.parted(counting(7, "X"), counting(11, ""), 10)

    def test_texts_that_grow_alike_but_differ_inside(self):
        # One puts b ahead of, the other one behind what was there: alike as long as only one letter comes.
        moves = {("on", "a"): ("on", {"X": "aX"}), ("on", "b"): ("on", {"X": "bX"})}
        other = {("on", "a"): ("on", {"X": "aX"}), ("on", "b"): ("on", {"X": "Xb"})}
        self.parted(Program("ab", "X", ["on"], moves, {"on": "X"}), Program("ab", "X", ["on"], other, {"on": "X"}), 2)

    def test_words_that_commute(self):
        one = Program("ab", "X", ["on"], {("on", "a"): ("on", {"X": "Xabab"}), ("on", "b"): ("on", {"X": "abX"})},
                      {"on": "X"})
        two = Program("ab", "X", ["on"], {("on", "a"): ("on", {"X": "ababX"}), ("on", "b"): ("on", {"X": "Xab"})},
                      {"on": "X"})
        self.like(one, two)
        three = Program("ab", "X", ["on"], {("on", "a"): ("on", {"X": "ababX"}), ("on", "b"): ("on", {"X": "Xba"})},
                        {"on": "X"})
        self.parted(one, three, 1)

    def test_boxes_exchanged(self):
        one = Program("a", "XY", ["on"], {("on", "a"): ("on", {"X": "Ya", "Y": "X"})}, {"on": "XY"})
        two = Program("a", "XY", ["on"], {("on", "a"): ("on", {"Y": "Xa", "X": "Y"})}, {"on": "YX"})
        self.like(one, two)
        self.like(one, plain("a"))

    def test_against_what_is_told(self):
        chance = random.Random(24)
        for _ in range(250):
            one = small_program(chance, "ab"[:chance.randint(1, 2)])
            two = twin_of(chance, one)
            expected = first_parted(one, two, 6)
            found = alike(one, two)
            if expected is None:
                self.assertTrue(found is None or len(found) > 6 and told(one, found) != told(two, found))
            else:
                self.assertEqual(len(found), len(expected))
                self.assertNotEqual(plainly_told(one, found), plainly_told(two, found))

    def test_other_names_and_places_told_twice(self):
        chance = random.Random(25)
        for _ in range(60):
            program = small_program(chance, "abc", 3)
            self.assertIsNone(alike(program, with_other_names(program)))
            self.assertIsNone(alike(with_a_place_twice(chance, program), with_other_names(program)))

    def test_three_boxes(self):
        chance = random.Random(26)
        for _ in range(25):
            one, two = [program_of(chance, "ab", "XYZ", many) for many in (2, 3)]
            for other in [two, with_other_names(with_a_place_twice(chance, one))]:
                expected = first_parted(one, other, 5)
                found = alike(one, other)
                self.assertEqual(found and len(found), expected and len(expected))

    def test_made_programs(self):
        chance = random.Random(27)
        for _ in range(25):
            one = small_program(chance, "ab", 1)
            two = small_program(chance, "ab", 1)
            self.assertIsNone(alike(turned(joined(one, two)), joined(turned(two), turned(one))))
            self.assertIsNone(alike(turned(either(one, two)), either(turned(one), turned(two))))
            table = {"a": "xy", "x": "b"}
            self.assertIsNone(alike(told_by(joined(one, two), table), joined(told_by(one, table), told_by(two, table))))
            self.assertIsNone(alike(led_by(led_by(one, {"a": "ab", "b": ""}), {"c": "aa"}), led_by(one, {"c": "abab"})))

    def test_great_fillings(self):
        tables = [{"a": "ab" * 50, "b": "ba" * 50}, {"a": "a" * 99, "b": "a" * 99 + "b"}]
        one = told_by(told_by(plain("ab"), tables[0]), tables[1])
        two = turned(told_by(told_by(turned(plain("ab")), tables[0]), tables[1]))
        self.assertIsNone(alike(one, turned(turned(one))))
        self.assertEqual(len(alike(one, two)), 1)
        three = led_by(led_by(one, {"a": "ab" * 30, "b": "b"}), {"a": "a", "b": "aa"})
        four = led_by(one, {"a": "ab" * 30, "b": "ab" * 60})
        self.assertIsNone(alike(three, four))
        self.assertIsNone(alike(joined(three, turned(four)), joined(four, turned(three))))

    def test_other_letters(self):
        for call in [alike, enough, lambda one, two: is_enough(one, two, [])]:
            for one, two, letter in [("ab", "bc", "a"), ("bc", "abc", "a"), ("ab", "abz", "z"), ("a", "b", "a")]:
                with self.assertRaises(OtherLetters) as caught:
                    call(plain(one), plain(two))
                self.assertEqual(caught.exception.letter, letter)
                self.assertIsInstance(caught.exception, BoxError)

    def test_by_name(self):
        self.assertIsNone(alike(one=plain("a"), two=backward("a")))
        self.assertEqual(enough(two=plain("a"), one=backward("a")), ["", "a"])
        self.assertTrue(is_enough(texts=["", "a"], two=plain("a"), one=backward("a")))


class Enough(unittest.TestCase):
    def check(self, one, two):
        found = enough(one, two)
        self.assertIsInstance(found, list)
        self.assertEqual(found, by_length(found))
        self.assertLessEqual(len(found), 4000)
        self.assertLessEqual(max(len(text) for text in found), 1000)
        self.assertTrue(is_enough(one, two, found))
        return found

    def test_known_programs(self):
        self.assertEqual(enough(plain("a"), backward("a")), ["", "a"])
        for one, two in [(plain("ab"), backward("ab")), (exchanging("ab", "a"), sorting("ab", "b")),
                         (late("abcde", "c"), halving("abcde")), (plain("abcde"), plain("abcde"))]:
            self.assertTrue(plainly_enough(one, two, self.check(one, two)))

    def test_programs_that_refuse_everything(self):
        self.assertEqual(enough(NOTHING, NOTHING), [""])
        self.assertTrue(is_enough(NOTHING, NOTHING, [""]))
        self.assertFalse(is_enough(NOTHING, NOTHING, []))
        self.assertTrue(plainly_enough(NOTHING, NO_END, self.check(NOTHING, NO_END)))
        self.assertEqual(enough(NOTHING, plain("ab")), ["", "a"])
        self.assertEqual(enough(plain("ab"), NOTHING), ["", "a"])

    def test_against_the_words(self):
        chance = random.Random(28)
        for _ in range(120):
            one = small_program(chance, "abc"[:chance.randint(1, 3)])
            two = twin_of(chance, one)
            self.assertTrue(plainly_enough(one, two, self.check(one, two)))

    def test_greatest_sizes(self):
        chance = random.Random(29)
        for boxes, places, letters in [(("XYZ", "XYZ"), (2, 5), "abcde"), (("XY", "XY"), (5, 5), "abc"),
                                       (("X", "X"), (6, 6), "abcde"), (("", ""), (6, 6), "ab"), (("", "XYZ"), (3, 6), "a")]:
            one, two = [program_of(chance, letters, boxes[k], places[k]) for k in range(2)]
            found = self.check(one, two)
            self.assertFalse(is_enough(one, two, found[:-1]))
            self.check(one, one)

    def test_long_texts(self):
        # A ring of 19 places beside one of 10: the pairs come back only behind 190 letters.
        names = ["abcdefghijklmnopqrstuvwxyz"[k] for k in range(19)]
        one, two = [
            Program("a", "", names[:many], {(names[k], "a"): (names[(k + 1) % many], {}) for k in range(many)},
                    {names[8]: "x", names[many - 1]: "y"})
            for many in (19, 10)
        ]
        self.assertEqual(self.check(one, two), ["a" * many for many in range(190)])
        self.assertEqual(alike(one, two), "a" * 9)
        self.assertFalse(is_enough(one, two, ["a" * many for many in range(190) if many != 100]))
        self.assertTrue(is_enough(one, two, ["a" * many for many in range(1, 191)] + [""]))

    def test_lists_are_new(self):
        found = enough(plain("a"), backward("a"))
        found.clear()
        self.assertEqual(enough(plain("a"), backward("a")), ["", "a"])


class IsEnough(unittest.TestCase):
    def test_examples(self):
        one, two = plain("a"), backward("a")
        self.assertTrue(is_enough(one, two, enough(one, two)))
        self.assertTrue(is_enough(one, two, ["", "a"]))
        self.assertFalse(is_enough(one, two, [""]))

    def test_lists(self):
        one, two = plain("a"), backward("a")
        self.assertFalse(is_enough(one, two, []))
        self.assertFalse(is_enough(one, two, ["a"]))
        self.assertFalse(is_enough(one, two, ["a", "aa"]))
        self.assertTrue(is_enough(one, two, ["a", ""]))
        self.assertTrue(is_enough(one, two, ("aa", "", "aa")))
        self.assertFalse(is_enough(one, two, ["", "", ""]))
        self.assertTrue(is_enough(one, two, ["a" * 10000, ""]))
        self.assertTrue(is_enough(one, two, ["a" * 70, "a" * 300, ""]))

    def test_lists_stay(self):
        texts = ["aa", "", "aa"]
        is_enough(plain("a"), backward("a"), texts)
        self.assertEqual(texts, ["aa", "", "aa"])

    def test_places_where_one_has_refused(self):
        one = Program("a", "", ["p", "q", "r"], {("p", "a"): ("q", {}), ("q", "a"): ("r", {}), ("r", "a"): ("q", {})}, {})
        two = Program("a", "", ["p"], {}, {})
        self.assertEqual(enough(one, two), ["", "a", "aa"])
        self.assertTrue(is_enough(one, two, ["", "aaaaa", "aaaaaa"]))
        self.assertFalse(is_enough(one, two, ["", "aaaaa", "aaa"]))
        self.assertFalse(is_enough(one, two, ["", "a"]))
        self.assertTrue(is_enough(two, one, ["", "aaaaa", "aaaaaa"]))
        self.assertFalse(is_enough(two, one, ["", "aa"]))

    def test_texts_that_both_refuse(self):
        self.assertTrue(is_enough(NOTHING, NOTHING, ["", "ab", "bbb"]))
        one = Program("ab", "X", ["on"], {("on", "a"): ("on", {"X": "Xa"})}, {"on": "X"})
        self.assertTrue(is_enough(one, one, ["", "a", "b", "ba", "ab"]))
        self.assertFalse(is_enough(one, one, ["", "b", "ba", "ab"]))

    def test_against_the_words(self):
        chance = random.Random(30)
        answers = {True: 0, False: 0}
        for _ in range(120):
            one = small_program(chance, "ab"[:chance.randint(1, 2)])
            two = twin_of(chance, one)
            whole = enough(one, two)
            for _ in range(4):
                texts = list(whole)
                if chance.random() < 0.7:
                    texts.remove(chance.choice(texts))
                for _ in range(chance.randrange(3)):
                    texts.append("".join(chance.choices(one.letters, k=chance.randrange(9))))
                if texts and chance.random() < 0.3:
                    texts.append(chance.choice(texts))
                chance.shuffle(texts)
                expected = plainly_enough(one, two, texts)
                answers[expected] += 1
                self.assertIs(is_enough(one, two, texts), expected)
        self.assertGreater(min(answers.values()), 50)

    def test_great_fillings(self):
        one = told_by(told_by(plain("ab"), {"a": "ab" * 50, "b": "b" * 100}), {"a": "c" * 100, "b": "d" * 100})
        for two in [turned(turned(one)), turned(one)]:
            found = enough(one, two)
            self.assertTrue(is_enough(one, two, found[::-1]))
            self.assertFalse(is_enough(one, two, found[:-1]))


class ExactNumbers(unittest.TestCase):
    """Texts whose numbers are equal modulo a prime that is used, or a power of two, and still are not equal."""

    def numbers(self):
        primes = first_primes(4)
        return [primes[0], primes[1], primes[0] * primes[1], primes[0] * primes[1] * primes[2], 2 ** 64, 2 ** 61 - 1,
                (2 ** 61 - 1) * (2 ** 89 - 1) * (2 ** 127 - 1) * 1000000007 * 998244353]

    def programs(self, number):
        """Two programs that tell the same behind a, but texts whose numbers differ by this one behind b."""
        texts = [text_of(26 ** 250), text_of(26 ** 250 + number), text_of(26 ** 250 + 1)]
        self.assertEqual([len(text) for text in texts], [len(texts[0])] * 3)
        moves = {("on", letter): ("on", {"X": text}) for letter, text in zip("abc", texts)}
        others = {**moves, ("on", "b"): ("on", {"X": texts[0]}), ("on", "c"): ("on", {"X": texts[0]})}
        return [Program("abc", "X", ["on"], found, {"on": "X"}) for found in [moves, others]]

    def test_numbers_that_differ_by_a_product_of_primes(self):
        for number in self.numbers():
            one, two = self.programs(number)
            self.assertEqual(alike(one, two), "b")
            self.assertEqual(alike(two, one), "b")
            self.assertEqual(enough(one, two), ["", "a", "b"])
            self.assertFalse(is_enough(one, two, ["", "a"]))
            self.assertFalse(is_enough(one, two, ["", "a", "a", "aa", "ba"]))
            for texts in [["", "a", "bb"], ["", "a", "c"], ["", "b", "cc"], ["", "c", "b", "a", "ab"]]:
                self.assertTrue(is_enough(one, two, texts))
                self.assertTrue(plainly_enough(one, two, texts))

    def test_with_very_long_fillings(self):
        for number in self.numbers():
            one, two = [told_by(joined(program, joined(plain("abc"), turned(plain("abc")))), {"a": "ab" * 50})
                        for program in self.programs(number)]
            self.assertEqual(alike(one, two), "b")
            self.assertIsNone(alike(one, turned(turned(one))))
            found = enough(one, two)
            self.assertTrue(is_enough(one, two, found))
            self.assertFalse(is_enough(one, two, found[:-1]))


if __name__ == "__main__":
    unittest.main()
