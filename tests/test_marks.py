"""Points 12 and 13: numbers and widths of texts, the marks of states, and what leads from marks to marks."""

import random
import unittest
from fractions import Fraction

from tests.made import plain_marks, plain_number, small_program, some_program, texts_up_to
from textboxes.errors import BoxError, NotLetter
from textboxes.fields import (
    FACTORS, combined, first_primes, fraction_of, inverse_of, number_modulo, primes_for, steps_of, width_modulo,
)
from textboxes.known import plain
from textboxes.likes import marks
from textboxes.makers import told_by
from textboxes.marking import marks_of, terms_of
from textboxes.programs import Program
from textboxes.widths import number_of, text_of, width_of


class Numbers(unittest.TestCase):
    def test_numbers(self):
        self.assertEqual([number_of(text) for text in ["", "a", "z", "aa", "az", "ba", "zz", "aaa"]],
                         [0, 1, 26, 27, 52, 53, 702, 703])
        chance = random.Random(18)
        for many in [1, 2, 63, 64, 65, 255, 256, 257, 300, 512, 513, 767, 900]:
            text = "".join(chance.choices("abcdefghijklmnopqrstuvwxyz", k=many))
            self.assertEqual(number_of(text), plain_number(text))

    def test_widths(self):
        for many in [0, 1, 2, 3, 63, 64, 65, 255, 256, 257, 1000]:
            self.assertEqual(width_of(many), 26 ** many)

    def test_two_put_together(self):
        chance = random.Random(19)
        for _ in range(50):
            one, two = ["".join(chance.choices("abyz", k=chance.randrange(600))) for _ in range(2)]
            self.assertEqual(number_of(one + two), number_of(one) * width_of(len(two)) + number_of(two))
            self.assertEqual(width_of(len(one + two)), width_of(len(one)) * width_of(len(two)))

    def test_unlike_texts_have_unlike_numbers(self):
        texts = texts_up_to("abyz", 5)
        self.assertEqual(len({number_of(text) for text in texts}), len(texts))
        self.assertEqual([text_of(number_of(text)) for text in texts], texts)
        self.assertEqual([text_of(number) for number in [0, 1, 26, 27, 702, 703]], ["", "a", "z", "aa", "zz", "aaa"])


class Primes(unittest.TestCase):
    def test_all_are_primes(self):
        self.assertEqual(len(set(FACTORS)), len(FACTORS))
        for prime in first_primes(len(FACTORS)):
            # Proth's theorem: k * 2 ** n + 1 with odd k < 2 ** n is a prime if such a power is -1.
            halves = [pow(base, (prime - 1) // 2, prime) for base in [3, 5, 7, 11, 13, 17, 19, 23]]
            self.assertIn(prime - 1, halves)
            self.assertEqual((prime - 1) % 2 ** 260, 0)
            self.assertEqual((prime >> 260) % 2, 1)

    def test_how_many(self):
        for bits in [1, 260, 265, 266, 267, 300, 1000, 50000, 130000]:
            product = 1
            for prime in first_primes(primes_for(bits)):
                product *= prime
            self.assertGreater(product, 2 ** bits)
        self.assertEqual(len(first_primes(1)), 1)
        self.assertEqual(len(first_primes(10 ** 6)), len(FACTORS))

    def test_inverses_and_fractions(self):
        chance = random.Random(31)
        for many in [1, 2, 5]:
            primes = first_primes(many)
            modulus = 1
            for prime in primes:
                modulus *= prime
            for _ in range(30):
                number = chance.randrange(1, modulus)
                self.assertEqual(number * inverse_of(number, primes[0]) % primes[0], 1 % primes[0])
                self.assertEqual(combined([number % prime for prime in primes], primes, steps_of(primes)), number)
                top, bottom = chance.randrange(-10 ** 30, 10 ** 30), chance.randrange(1, 10 ** 30)
                found = fraction_of(top * pow(bottom, -1, modulus) % modulus, modulus)
                self.assertEqual(Fraction(*found), Fraction(top, bottom))

    def test_modulo(self):
        chance = random.Random(20)
        prime = first_primes(1)[0]
        for many in [0, 1, 255, 256, 257, 300, 1000]:
            text = "".join(chance.choices("abcz", k=many))
            self.assertEqual(number_modulo(text, prime), number_of(text) % prime)
            self.assertEqual(width_modulo(many, prime), width_of(many) % prime)


class Marks(unittest.TestCase):
    def test_order(self):
        self.assertEqual(marks_of(""), [("", "")])
        self.assertEqual(marks_of("X"), [("", ""), ("", "X"), ("X", "")])
        self.assertEqual(marks_of("XY"), [
            ("", ""), ("", "X"), ("", "Y"), ("X", ""), ("X", "Y"), ("Y", ""), ("Y", "X"), ("XY", ""),
        ])
        self.assertEqual([widths for widths, number in marks_of("ABC") if number == ""],
                         ["", "A", "B", "C", "AB", "AC", "BC", "ABC"])

    def test_how_many(self):
        for many in range(7):
            self.assertEqual(len(marks_of("ABCDEF"[:many])), 2 ** many + many * 2 ** many // 2)

    def test_marks(self):
        self.assertEqual(marks(plain("ab"), ""), ("on", [1, 0, 1]))
        self.assertEqual(marks(plain("ab"), "ab"), ("on", [1, 28, 676]))
        self.assertEqual(marks(Program("a", "", ["on", "off"], {("on", "a"): ("off", {})}, {}), "a"), ("off", [1]))
        self.assertIsNone(marks(Program("a", "", ["on"], {}, {}), "a"))
        program = Program("a", "YX", ["on"], {("on", "a"): ("on", {"X": "Xb", "Y": "aYc"})}, {})
        self.assertEqual(marks(program, "a"), ("on", [1, 2, 29, 26, 26 * 29, 676, 676 * 2, 26 ** 3]))
        self.assertIsInstance(marks(program, "a"), tuple)
        self.assertIsInstance(marks(program, "a")[1], list)

    def test_against_the_words(self):
        chance = random.Random(21)
        for _ in range(60):
            program = some_program(chance)
            for text in texts_up_to(program.letters, 2):
                self.assertEqual(marks(program=program, text=text), plain_marks(program, text))

    def test_not_letters(self):
        for wrong, letter in [("c", "c"), ("ab!", "!"), (None, None), (7, 7), (["a"], ["a"])]:
            with self.assertRaises(NotLetter) as caught:
                marks(plain("ab"), wrong)
            self.assertEqual(caught.exception.letter, letter)
            self.assertIsInstance(caught.exception, BoxError)
        with self.assertRaises(NotLetter):
            marks(Program("a", "", ["on"], {}, {}), "ab")

    def test_lists_are_new(self):
        program = plain("a")
        found = marks(program, "a")
        found[1][0] = 5
        self.assertEqual(marks(program, "a"), ("on", [1, 1, 26]))

    def test_great_fillings(self):
        program = told_by(told_by(plain("a"), {"a": "b" * 100}), {"b": "c" * 100})
        self.assertEqual(marks(program, "a"), ("on", [1, 3 * (26 ** 10000 - 1) // 25, 26 ** 10000]))

    def test_moves_lead_from_marks_to_marks(self):
        chance = random.Random(22)
        prime = first_primes(1)[0]
        for _ in range(60):
            program = small_program(chance, "ab", 3)
            for text in texts_up_to("ab", 3):
                state = marks(program, text)
                for letter in "ab":
                    after = marks(program, text + letter)
                    if after is not None:
                        terms = terms_of(program.boxes, program.move(state[0], letter)[1], number_of, width_of)
                        found = [sum(factor * state[1][at] for factor, at in line) for line in terms]
                        self.assertEqual(found, after[1])


if __name__ == "__main__":
    unittest.main()
