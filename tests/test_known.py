"""Point 22: the known programs, and other points over them."""

import itertools
import unittest

from tests.made import plain_origins, texts_up_to
from textboxes import known
from textboxes.boxes import always_has, cleared, needed, unequal
from textboxes.counts import all_told, lengths
from textboxes.ends import not_always, told_at_all, where
from textboxes.gaps import gap
from textboxes.known import backward, exchanging, halving, late, plain, sorting
from textboxes.likes import alike
from textboxes.makers import either, joined, led_by, told_by, turned, within
from textboxes.marked import unlike_origins
from textboxes.programs import Program
from textboxes.runs import told
from textboxes.tables import Table, are_alike
from textboxes.whence import origins

LETTERS = ["a", "z", "ab", "ba", "abcde", "edcba", "cxa", "qwert", "mnop"]
WITHOUT_SIGN = ["plain", "backward", "halving"]
WITH_SIGN = ["exchanging", "sorting", "late"]
# For each program the lines of its places, and behind each letter of them what its move is.
LINES = {
    "plain": lambda letter, sign: {"on X": f"on X=X{letter}"},
    "backward": lambda letter, sign: {"on X": f"on X={letter}X"},
    "exchanging": lambda letter, sign: {
        "ahead": "behind X=X" if letter == sign else f"ahead X=X{letter}",
        f"behind Y{sign}X": f"behind X=X Y=Y{letter}",
    },
    "sorting": lambda letter, sign: {"on XY": f"on X=X{sign} Y=Y" if letter == sign else f"on X=X Y=Y{letter}"},
    "halving": lambda letter, sign: {"take X": f"leave X=X{letter}", "leave X": "take X=X"},
    "late": lambda letter, sign: {
        place: f"yes X=X{letter}" if letter == sign else f"no X=X{letter}" for place in ["no -", "yes X"]
    },
}
BOXES = {"exchanging": "XY", "sorting": "XY"}


def known_text(name, letters, sign=None):
    """The text of a known program, by the words of point 22."""
    lines = [f"letters {''.join(sorted(letters))}", f"boxes {BOXES.get(name, 'X')}"]
    for place in LINES[name](letters[0], sign):
        lines.append(f"place {place}")
        lines += [f"{letter} {LINES[name](letter, sign)[place]}" for letter in sorted(letters)]
    return "\n".join(lines)


def all_known(letters):
    """All known programs for some letters."""
    found = [getattr(known, name)(letters) for name in WITHOUT_SIGN]
    return found + [getattr(known, name)(letters, sign) for name in WITH_SIGN for sign in letters]


class Known(unittest.TestCase):
    def test_equal_to_what_the_point_tells(self):
        for letters in LETTERS:
            for name in WITHOUT_SIGN:
                found = getattr(known, name)(letters)
                self.assertIsInstance(found, Program)
                self.assertEqual(found, Program.parse(known_text(name, letters)))
                self.assertEqual(found, getattr(known, name)(letters="".join(sorted(letters))))
            for sign, name in itertools.product(letters, WITH_SIGN):
                found = getattr(known, name)(letters, sign)
                self.assertEqual(found, Program.parse(known_text(name, letters, sign)))
                self.assertEqual(found, getattr(known, name)(sign=sign, letters=letters[::-1]))

    def test_texts_of_programs(self):
        self.assertEqual(backward("ba").text(), "letters ab\nboxes X\nplace on X\na on X=aX\nb on X=bX")
        self.assertEqual(exchanging("a", "a").text(), "letters a\nboxes XY\nplace ahead\na behind X=X\n"
                                                      "place behind YaX\na behind X=X Y=Ya")
        self.assertEqual(late("ab", "a").text(), "letters ab\nboxes X\nplace no -\na yes X=Xa\nb no X=Xb\n"
                                                 "place yes X\na yes X=Xa\nb no X=Xb")

    def test_what_they_tell(self):
        for text in texts_up_to("abc", 5):
            ahead, sign, behind = text.partition("b")
            self.assertEqual(told(plain("abc"), text), text)
            self.assertEqual(told(backward("abc"), text), text[::-1])
            self.assertEqual(told(exchanging("abc", "b"), text), behind + sign + ahead if sign else None)
            self.assertEqual(told(sorting("abc", "b"), text), "b" * text.count("b") + text.replace("b", ""))
            self.assertEqual(told(halving("abc"), text), text[::2])
            self.assertEqual(told(late("abc", "b"), text), text if text.endswith("b") else "")

    def test_unlike_letters_and_signs(self):
        for one, two in itertools.combinations(all_known("abcde"), 2):
            self.assertFalse(one == two)


class OtherPoints(unittest.TestCase):
    """Points 9, 11, 15 to 21 over the known programs."""

    def test_programs_that_are_alike(self):
        for letters in ["a", "ab", "abc"]:
            for program in all_known(letters):
                self.assertIsNone(alike(program, turned(turned(program))))
                self.assertIsNone(alike(program, cleared(program)))
                self.assertEqual(alike(program, either(program, plain(letters))), told_at_all(program).others().shortest())
                self.assertIsNone(unlike_origins(program, led_by(program, {letter: letter for letter in letters})))
                self.assertIsNone(unlike_origins(program, told_by(program, {})))
                self.assertIsNone(unlike_origins(program, within(program, told_at_all(program))))
            self.assertIsNone(alike(turned(plain(letters)), backward(letters)))
            self.assertIsNone(unlike_origins(turned(plain(letters)), backward(letters)))
        self.assertIsNone(unlike_origins(turned(joined(plain("ab"), halving("ab"))), joined(turned(halving("ab")),
                                                                                            backward("ab"))))

    def test_programs_of_one_letter_tell_the_same_with_other_origins(self):
        self.assertIsNone(alike(plain("a"), backward("a")))
        self.assertEqual(unlike_origins(plain("a"), backward("a")), "aa")
        self.assertIsNone(unlike_origins(plain("a"), sorting("a", "a")))
        self.assertIsNone(unlike_origins(plain("a"), late("a", "a")))
        self.assertEqual(unlike_origins(plain("a"), exchanging("a", "a")), "")
        self.assertEqual(alike(either(exchanging("a", "a"), plain("a")), plain("a")), None)
        # The end puts the sign that it tells.
        self.assertEqual(unlike_origins(either(exchanging("a", "a"), plain("a")), plain("a")), "a")

    def test_tables(self):
        has_b = Table("ab", ["a", "b"], {("a", "a"): "a", ("a", "b"): "b", ("b", "a"): "b", ("b", "b"): "b"}, ["b"])
        self.assertEqual(told_at_all(exchanging("ba", "b")), has_b)
        for program in all_known("ab"):
            self.assertIsNone(not_always(program, has_b.either(has_b.others())))
            self.assertIsNone(not_always(within(program, where(program, has_b)), has_b))
        self.assertIsNone(are_alike(where(backward("ab"), has_b), where(sorting("ab", "a"), has_b)))
        self.assertEqual(are_alike(where(halving("ab"), has_b), has_b), "ab")
        self.assertEqual(where(late("ab", "a"), has_b).shortest(), "ba")

    def test_gaps(self):
        for letters in ["a", "ab", "abcde"]:
            for program in all_known(letters):
                number = gap(program, plain(letters))[1]
                self.assertEqual(number, 0)
                self.assertEqual(gap(program, joined(program, program))[:2], ("most", -1 if "behind" in program.places else 0))
        self.assertEqual(gap(plain("abc"), exchanging("abc", "c"), {"c": 1}), ("most", 0, "c"))

    def test_boxes(self):
        self.assertEqual(needed(exchanging("ab", "a")), {"ahead": "X", "behind": "XY"})
        self.assertEqual(needed(late("ab", "a")), {"no": "X", "yes": "X"})
        self.assertEqual(unequal(exchanging("ab", "a"), "X", "Y"), "b")
        self.assertEqual(len(unequal(sorting("ab", "a"), "Y", "X")), 1)
        self.assertEqual(unequal(exchanging("a", "a"), "X", "Y"), "aa")
        self.assertEqual(always_has(exchanging("a", "a"), "X"), {"ahead": "", "behind": ""})
        self.assertEqual(always_has(sorting("a", "a"), "Y"), {"on": ""})

    def test_counts(self):
        for letters in ["a", "abc"]:
            for program in all_known(letters):
                self.assertIsNone(all_told(program))
                for many in range(4):
                    expected = {}
                    for text in itertools.product(letters, repeat=many):
                        words = told(program, "".join(text))
                        if words is not None:
                            expected[len(words)] = expected.get(len(words), 0) + 1
                    self.assertEqual(lengths(program, many), expected)
        self.assertEqual(lengths(late("abcde", "c"), 100), {0: 4 * 5 ** 99, 100: 5 ** 99})
        self.assertEqual(lengths(exchanging("abcde", "c"), 100), {100: 5 ** 100 - 4 ** 100})

    def test_origins(self):
        for program in all_known("ab"):
            for text in texts_up_to("ab", 5):
                pairs = plain_origins(program, text)
                self.assertEqual(origins(program, text), pairs and [origin for _, origin in pairs])
        self.assertEqual(origins(exchanging("ab", "b"), "aabab"), [3, 4, 5, 0, 1])


if __name__ == "__main__":
    unittest.main()
