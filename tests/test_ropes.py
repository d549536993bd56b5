"""Ropes: texts that are kept as pieces."""

import random
import unittest

from textboxes.ropes import SHORT, length_of, letters_of, piece_of, put_together, rope_of, written


class Ropes(unittest.TestCase):
    def test_put_together(self):
        chance = random.Random(23)
        for _ in range(60):
            pairs = [("", "")]
            for _ in range(40):
                kind = chance.randrange(3)
                text = "".join(chance.choices("abc", k=chance.choice([0, 1, 5, SHORT - 1, SHORT, SHORT + 1])))
                rope, plain = chance.choice(pairs[-3:])
                if kind == 0:
                    pairs.append((put_together(rope, text), plain + text))
                elif kind == 1:
                    pairs.append((put_together(text, rope), text + plain))
                else:
                    other, more = chance.choice(pairs[-3:])
                    if len(plain) + len(more) < 50000:
                        pairs.append((put_together(rope, other), plain + more))
            for rope, plain in pairs:
                self.assertEqual(written(rope), plain)
                self.assertEqual(length_of(rope), len(plain))
                self.assertEqual(letters_of(rope), {sign: plain.count(sign) for sign in sorted(set(plain))})
                for _ in range(3):
                    first, length = chance.randrange(len(plain) + 3), chance.randrange(2 * SHORT)
                    self.assertEqual(piece_of(rope, first, length), plain[first:first + length])

    def test_longer_than_any_store(self):
        rope = rope_of(["a" * SHORT, "b" * SHORT])
        for _ in range(100):
            rope = put_together(rope, rope)
        self.assertEqual(length_of(rope), 2 * SHORT << 100)
        self.assertEqual(letters_of(rope), {"a": SHORT << 100, "b": SHORT << 100})
        self.assertEqual(piece_of(rope, (SHORT << 100) - 2, 4), "bbaa")

    def test_few_pieces(self):
        for step in [lambda rope: put_together(rope, "a"), lambda rope: put_together("a", rope),
                     lambda rope: put_together("a", put_together(rope, "a"))]:
            rope = ""
            for _ in range(20 * SHORT):
                rope = step(rope)
            many, waiting = 0, [rope]
            while waiting:
                piece = waiting.pop()
                many += 1
                if not isinstance(piece, str):
                    waiting.extend(piece.pieces())
            self.assertLess(many, 300)


if __name__ == "__main__":
    unittest.main()
