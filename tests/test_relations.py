"""Spans modulo primes, and relations between marks that make what they tell certain."""

import random
import unittest

from tests.made import basis_of, program_of, small_program, twin_of
from textboxes.bounds import Bound
from textboxes.fields import first_primes
from textboxes.known import backward, plain
from textboxes.likes import enough, marks
from textboxes.programs import Program
from textboxes.relations import hold
from textboxes.runs import behind
from textboxes.spans import Span
from textboxes.twins import Twins


def searched(one, two, many):
    """The twins that kept a list that is enough, modulo so many primes."""
    twins = Twins(one, two, first_primes(many))
    for text in enough(one, two):
        states = twins.first()
        for letter in text:
            states = twins.after(states, letter)
        twins.keep(states)
    return twins


def determinant(rows):
    if not rows:
        return 1
    return sum((-1) ** at * row[0] * determinant([other[1:] for k, other in enumerate(rows) if k != at])
               for at, row in enumerate(rows) if row[0])


class Spans(unittest.TestCase):
    def test_against_fractions(self):
        chance = random.Random(32)
        for many in [1, 2, 5]:
            for _ in range(40):
                span = Span(many, first_primes(1)[0])
                rows = []
                for _ in range(8):
                    row = [chance.choice([0, 0, 1, -1, 7, 10 ** 6]) for _ in range(many)]
                    is_new = len(basis_of(rows + [row])) > len(basis_of(rows))
                    self.assertEqual(span.take(row), is_new)
                    rows.append(row)

    def test_residues(self):
        prime = first_primes(1)[0]
        span = Span(3, prime)
        self.assertTrue(span.take([2, 4, 6]))
        self.assertTrue(span.take([0, 3, 3]))
        self.assertFalse(span.take([2, 7, 9]))
        self.assertEqual([span.pivots(), span.columns(), span.residues()], [[0, 1], [2], [[1], [1]]])


class Relations(unittest.TestCase):
    def test_they_hold_behind_texts(self):
        chance = random.Random(33)
        certain = 0
        for _ in range(40):
            one = small_program(chance, "ab")
            two = twin_of(chance, one)
            relations = searched(one, two, 3).relations()
            if relations is None:
                continue
            certain += hold(one, two, relations)
            for text in ["", "a", "b", "ab", "ba", "aab", "bbb", "abab"]:
                states = [marks(one, text), marks(two, text)]
                if None in states:
                    continue
                row = states[0][1] + states[1][1]
                for at, (factor, others) in relations[(states[0][0], states[1][0])].items():
                    self.assertEqual(factor * row[at], sum(by * row[other] for other, by in others.items()))
        self.assertGreater(certain, 30)

    def test_relations_that_do_not_hold(self):
        one, two = plain("ab"), backward("ab")
        relations = searched(one, two, 1).relations()
        self.assertTrue(hold(one, two, relations))
        pair = ("on", "on")
        self.assertEqual(sorted(relations[pair]), [3, 5])
        # Both have 1, and boxes of the same width; but their numbers are not always the same.
        self.assertEqual(relations[pair][3], (1, {0: 1}))
        self.assertEqual(relations[pair][5], (1, {2: 1}))
        self.assertFalse(hold(one, two, {pair: {**relations[pair], 4: (1, {1: 1})}}))
        self.assertFalse(hold(one, two, {pair: {3: (2, {0: 1})}}))
        self.assertFalse(hold(one, two, {pair: {5: (1, {0: 1})}}))
        self.assertTrue(hold(one, one, {pair: {4: (1, {1: 1}), 5: (1, {2: 1}), 3: (7, {0: 7})}}))
        # What a letter ahead of a box adds to the number depends on the width.
        self.assertFalse(hold(two, two, {pair: {4: (1, {1: 1}), 3: (1, {0: 1})}}))
        self.assertTrue(hold(two, two, {pair: {4: (1, {1: 1}), 3: (1, {0: 1}), 5: (-3, {2: -3})}}))

    def test_fractions(self):
        # Behind each text but the empty one, the number of Y is twice that of X.
        one = Program("a", "XY", ["on", "off"], {("on", "a"): ("off", {"X": "a", "Y": "b"}),
                                                 ("off", "a"): ("off", {"X": "Xa", "Y": "Yb"})}, {})
        relations = searched(one, plain("a"), 1).relations()
        self.assertTrue(hold(one, plain("a"), relations))
        row = marks(one, "aa")[1] + marks(plain("a"), "aa")[1]
        for at, (factor, others) in relations[("off", "on")].items():
            self.assertEqual(factor * row[at], sum(by * row[other] for other, by in others.items()))
        self.assertIn(2, [factor for factor, _ in relations[("off", "on")].values()] +
                      [by for _, others in relations[("off", "on")].values() for by in others.values()])

    def test_numbers_that_are_not_small(self):
        one = Program("a", "X", ["on", "off"], {("on", "a"): ("off", {"X": "z" * 200}), ("off", "a"): ("on", {})}, {})
        self.assertIsNone(searched(one, one, 1).relations())
        self.assertTrue(hold(one, one, searched(one, one, 12).relations()))


class Bounds(unittest.TestCase):
    def test_no_determinant_is_greater(self):
        chance = random.Random(34)
        for _ in range(40):
            one, two = [program_of(chance, "ab", boxes, 1) for boxes in ["X", chance.choice(["", "X"])]]
            bound = Bound(one.boxes, two.boxes)
            rows = []
            for _ in range(6):
                text = "".join(chance.choices("ab", k=chance.randrange(6)))
                states = [behind(one, text), behind(two, text)]
                if None in states or len(rows) == 3:
                    continue
                lengths = [[len(found) for found in state[1].values()] for state in states]
                bound.ask(*lengths)
                bound.keep(*lengths)
                rows.append(marks(one, text)[1] + marks(two, text)[1])
            for _ in range(5 if rows else 0):
                columns = chance.sample(range(len(rows[0])), len(rows))
                found = determinant([[row[at] for at in columns] for row in rows])
                self.assertLess(abs(found), 2 ** bound.bits())


if __name__ == "__main__":
    unittest.main()
