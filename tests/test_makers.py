"""Point 9: new programs made of programs."""

import random
import unittest

from tests.made import plainly_told, put_together, small_program, some_program, texts_up_to, twin_of
from textboxes.errors import BadLetters, BoxError, OtherLetters, TooMany
from textboxes.known import backward, exchanging, halving, late, plain, sorting
from textboxes.makers import either, joined, led_by, told_by, turned, within
from textboxes.programs import Program
from textboxes.runs import told
from textboxes.tables import Table

NOTHING = Program("ab", "", ["on"], {}, {})


def ring(many, letters="ab", boxes="", letter="a"):
    """A program of so many places: each letter leads around, `letter` to the next place, others stay; an end each."""
    names = ["r" + "abcdefghijklmnopqrstuvwxyz"[k // 26] + "abcdefghijklmnopqrstuvwxyz"[k % 26] for k in range(many)]
    moves = {}
    for at, name in enumerate(names):
        for sign in letters:
            moves[(name, sign)] = (names[(at + 1) % many] if sign == letter else name, {})
    return Program(letters, boxes, names, moves, {name: name for name in names})


def taking(letters, places, good, moves):
    """A table, and a plain way to tell whether it takes a text."""
    table = Table(letters, places, moves, good)

    def takes(text):
        place = places[0]
        for letter in text:
            place = moves.get((place, letter))
            if place is None:
                return False
        return place in good

    return table, takes


def some_table(chance, letters, most=4):
    places = ["one", "two", "three", "four"][:chance.randint(1, most)]
    moves = {(p, a): chance.choice(places) for p in places for a in letters if chance.random() < 0.8}
    return taking(letters, places, [place for place in places if chance.random() < 0.6], moves)


class Makers(unittest.TestCase):
    def same(self, program, texts, expected):
        for text in texts:
            self.assertEqual(told(program, text), expected(text), text)

    def raised(self, error, call, *things):
        with self.assertRaises(error) as caught:
            call(*things)
        self.assertIsInstance(caught.exception, BoxError)
        return caught.exception


class Told(Makers):
    def test_letters_are_replaced(self):
        program = told_by(backward("ab"), {"a": "xy", "b": ""})
        self.assertEqual(told(program, "ab"), "xy")
        self.assertEqual(told(told_by(backward("ab"), {"a": "xy"}), "ab"), "bxy")
        self.assertEqual(told(told_by(backward("ab"), {"a": "b", "b": "a"}), "aab"), "abb")

    def test_ends_and_letters_that_are_not_read(self):
        program = Program("a", "X", ["on"], {("on", "a"): ("on", {"X": "Xz"})}, {"on": "yXz"})
        self.assertEqual(told(told_by(program, {"z": "zz", "y": "", "q": "a"}), "aa"), "zzzzzz")

    def test_empty_table(self):
        program = exchanging("abc", "c")
        self.assertEqual(told(told_by(program, {}), "abcba"), told(program, "abcba"))

    def test_no_more_places_and_boxes(self):
        chance = random.Random(9)
        for _ in range(30):
            program = some_program(chance)
            tables = [{"a": "", "x": "yy"}, {"b": "ab"}]
            for made in [told_by(program, tables[0]), told_by(program, tables[1]), turned(program)]:
                self.assertLessEqual(len(made.places), len(program.places))
                self.assertLessEqual(len(made.boxes), len(program.boxes))
                self.assertEqual(made.letters, program.letters)

    def test_against_what_is_told(self):
        chance = random.Random(10)
        for _ in range(60):
            program = some_program(chance)
            table = {sign: chance.choice(["", "a", "xyz", "bb"]) for sign in "abcxyz" if chance.random() < 0.6}

            def expected(text):
                found = plainly_told(program, text)
                return None if found is None else put_together(found, table)

            self.same(told_by(program, table), texts_up_to(program.letters, 3), expected)

    def test_twice_and_long(self):
        program = told_by(told_by(plain("ab"), {"a": "ab" * 50, "b": "b" * 100}), {"a": "c" * 100, "b": "d" * 100})
        self.assertEqual(told(program, "ba"), "d" * 10000 + ("c" * 100 + "d" * 100) * 50)
        thrice = told_by(program, {"c": "a" * 100, "d": "b" * 100})
        self.assertEqual(told(turned(turned(thrice)), "b"), "b" * 1000000)

    def test_wrong_tables(self):
        for wrong in [None, 3, "a", [("a", "b")], ("a",), {"a"}]:
            self.assertIsNone(self.raised(BadLetters, told_by, plain("a"), wrong).letter)
        for wrong in ["", "A", "ab", "-", 1, None, True, ("a",), b"a", 1.5]:
            self.assertEqual(self.raised(BadLetters, told_by, plain("a"), {"a": "b", wrong: "a"}).letter, wrong)
        for wrong in ["A", "a b", None, 1, ["a"], b"a", "\n", "X"]:
            self.assertEqual(self.raised(BadLetters, told_by, plain("a"), {"z": "", "a": wrong, "c": 1}).letter, "a")

    def test_first_wrong_key(self):
        self.assertEqual(self.raised(BadLetters, told_by, plain("a"), {"b": "", "a": 1, 2: ""}).letter, "a")
        self.assertEqual(self.raised(BadLetters, told_by, plain("a"), {"b": "", 2: "", "a": 1}).letter, 2)

    def test_table_may_be_changed(self):
        table = {"a": "x"}
        program = told_by(plain("ab"), table)
        table["a"] = "y"
        table["b"] = "z"
        self.assertEqual(told(program, "ab"), "xb")
        told_by(plain("ab"), table)
        self.assertEqual(table, {"a": "y", "b": "z"})

    def test_by_name(self):
        self.assertEqual(told(told_by(program=plain("a"), table={"a": "b"}), "a"), "b")


class Led(Makers):
    def test_letters_of_the_table(self):
        program = led_by(backward("ab"), {"x": "ab", "y": "", "a": "b"})
        self.assertEqual(program.letters, "axy")
        self.assertEqual(told(program, "xya"), "bba")
        self.assertEqual(told(program, ""), "")
        self.assertEqual(told(program, "yyy"), "")

    def test_refused(self):
        program = Program.parse("letters ab\nboxes\nplace on y\na off\nplace off z\nb on")
        self.same(led_by(program, {"a": "ab", "b": "aa", "c": "a"}), ["", "a", "aa"], lambda text: "y")
        self.same(led_by(program, {"a": "ab", "b": "aa", "c": "a"}), ["b", "ba", "ca", "cc"], lambda text: None)
        self.assertEqual(told(led_by(program, {"a": "ab", "c": "a"}), "ac"), "z")
        self.same(led_by(NOTHING, {"a": ""}), ["", "aa"], lambda text: None)

    def test_no_more_places_and_boxes(self):
        chance = random.Random(11)
        for _ in range(20):
            program = some_program(chance)
            made = led_by(program, {"q": program.letters, "r": ""})
            self.assertLessEqual(len(made.places), len(program.places))
            self.assertLessEqual(len(made.boxes), len(program.boxes))

    def test_against_what_is_told(self):
        chance = random.Random(12)
        for _ in range(60):
            program = some_program(chance)
            letters = chance.sample("abcde", chance.randint(1, 5))
            table = {sign: "".join(chance.choices(program.letters, k=chance.randrange(4))) for sign in letters}
            made = led_by(program, table)
            self.assertEqual(made.letters, "".join(sorted(letters)))
            self.same(made, texts_up_to(made.letters, 3), lambda text: plainly_told(program, put_together(text, table)))

    def test_long(self):
        program = led_by(led_by(backward("ab"), {"a": "ab" * 50, "b": "a"}), {"c": "a" * 100})
        self.assertEqual(told(program, "cc"), "ba" * 10000)
        self.assertEqual(told(turned(program), "cc"), "ab" * 10000)

    def test_wrong_tables(self):
        six = {sign: "a" for sign in "abcdef"}
        for wrong in [None, 3, "a", [("a", "a")], {}, six, {**six, 1: 1}]:
            self.assertIsNone(self.raised(BadLetters, led_by, plain("ab"), wrong).letter)
        for wrong in ["", "A", "ab", "-", 1, None, True, ("a",)]:
            self.assertEqual(self.raised(BadLetters, led_by, plain("ab"), {"a": "b", wrong: "a"}).letter, wrong)
        for wrong in ["c", "abc", "A", "a b", None, 1, ["a"], b"a"]:
            self.assertEqual(self.raised(BadLetters, led_by, plain("ab"), {"z": "", "a": wrong, 1: ""}).letter, "a")
        self.assertEqual(self.raised(BadLetters, led_by, plain("ab"), {1: "", "a": "c"}).letter, 1)

    def test_table_may_be_changed(self):
        table = {"c": "ab"}
        program = led_by(plain("ab"), table)
        table["c"] = "b"
        self.assertEqual(told(program, "c"), "ab")
        self.assertEqual(table, {"c": "b"})

    def test_by_name(self):
        self.assertEqual(told(led_by(table={"b": "aa"}, program=plain("a")), "b"), "aa")


class Turned(Makers):
    def test_turned(self):
        self.same(turned(backward("ab")), texts_up_to("ab", 5), lambda text: text)
        program = Program("a", "XY", ["on"], {("on", "a"): ("on", {"X": "abXcYd"})}, {"on": "pXqYr"})
        self.assertEqual(told(program, "aa"), "pababcdcdqr")
        self.assertEqual(told(turned(program), "aa"), "rqdcdcbabap")
        self.assertIsNone(told(turned(NOTHING), ""))

    def test_against_what_is_told(self):
        chance = random.Random(13)
        for _ in range(60):
            program = some_program(chance)

            def expected(text):
                found = plainly_told(program, text)
                return None if found is None else found[::-1]

            self.same(turned(program=program), texts_up_to(program.letters, 3), expected)


class Two(Makers):
    def test_joined(self):
        self.same(joined(backward("ab"), plain("ab")), texts_up_to("ab", 4), lambda text: text[::-1] + text)
        self.same(joined(one=late("ab", "a"), two=ring(3)), ["", "b", "ba"], lambda text: told(late("ab", "a"), text)
                  + told(ring(3), text))
        self.assertIsNone(told(joined(plain("ab"), NOTHING), ""))
        self.assertIsNone(told(joined(NOTHING, plain("ab")), ""))
        self.assertIsNone(told(joined(exchanging("ab", "b"), plain("ab")), "aa"))

    def test_either(self):
        program = either(exchanging("ab", "b"), plain("ab"))
        self.assertEqual([told(program, text) for text in ["", "aa", "aba", "aab"]], ["", "aa", "aba", "baa"])
        program = either(one=plain("ab"), two=exchanging("ab", "b"))
        self.assertEqual(told(program, "aab"), "aab")
        self.same(either(NOTHING, plain("ab")), texts_up_to("ab", 3), lambda text: text)
        self.same(either(plain("ab"), NOTHING), texts_up_to("ab", 3), lambda text: text)
        self.same(either(NOTHING, NOTHING), texts_up_to("ab", 2), lambda text: None)

    def test_first_one_empty_is_not_refused(self):
        empty = Program("ab", "", ["on"], {}, {"on": ""})
        self.assertEqual(told(either(empty, ring(2)), ""), "")
        self.assertEqual(told(either(empty, ring(2)), "a"), "rab")

    def test_against_what_is_told(self):
        chance = random.Random(14)
        for _ in range(150):
            one = small_program(chance, "ab"[:chance.randint(1, 2)])
            two = twin_of(chance, one)

            def expected(text):
                found = [plainly_told(one, text), plainly_told(two, text)]
                return None if None in found else found[0] + found[1]

            def other(text):
                found = plainly_told(one, text)
                return plainly_told(two, text) if found is None else found

            self.same(joined(one, two), texts_up_to(one.letters, 5), expected)
            self.same(either(one, two), texts_up_to(one.letters, 5), other)
            for made in [joined(one, two), either(one, two)]:
                self.assertLessEqual(len(made.boxes), len(one.boxes) + len(two.boxes))
                self.assertEqual(Program.parse(made.text()), made)

    def test_made_of_made_ones(self):
        program = joined(turned(plain("ab")), either(exchanging("ab", "a"), told_by(plain("ab"), {"b": "c"})))
        self.assertEqual(told(program, "bb"), "bbcc")
        self.assertEqual(told(program, "bab"), "babbab")
        self.assertEqual(told(joined(program, plain("ab")), "bb"), "bbccbb")

    def test_other_letters(self):
        for make in [joined, either]:
            self.assertEqual(self.raised(OtherLetters, make, plain("ab"), plain("bc")).letter, "a")
            self.assertEqual(self.raised(OtherLetters, make, plain("bc"), plain("bad")).letter, "a")
            self.assertEqual(self.raised(OtherLetters, make, plain("ab"), plain("abz")).letter, "z")
            seven = [Program(letters, "ABCD", ["on"], {}, {}) for letters in ["ab", "ac"]]
            self.assertEqual(self.raised(OtherLetters, make, seven[0], seven[1]).letter, "b")

    def test_too_many_boxes(self):
        for make in [joined, either]:
            four = Program("ab", "ABCD", ["on"], {}, {})
            self.assertEqual(self.raised(TooMany, make, four, Program("ab", "XYZ", ["on"], {}, {})).what, "boxes")
            self.assertEqual(make(four, Program("ab", "XY", ["on"], {}, {})).letters, "ab")
            self.assertEqual(self.raised(TooMany, make, ring(50, boxes="ABCD"), ring(49, boxes="ABC")).what, "boxes")

    def test_too_many_places(self):
        for make in [joined, either]:
            self.assertEqual(self.raised(TooMany, make, ring(5), ring(11, letter="b")).what, "places")
            self.assertEqual(self.raised(TooMany, make, ring(3, "a"), ring(17, "a")).what, "places")
            self.assertEqual(len(make(ring(5), ring(10, letter="b")).places), 50)
            self.assertEqual(len(make(ring(50), ring(50)).places), 50)
            self.assertEqual(told(make(ring(50), ring(25)), "a" * 49)[:3], "rbx")

    def test_pairs_with_a_program_that_has_refused_count(self):
        # At b this one refuses; then the other one goes on alone, at as many places as it has.
        moves = {("on", "a"): ("on", {})}
        once = Program("ab", "", ["on"], moves, {"on": "x"})
        self.assertEqual(len(joined(once, ring(50, letter="a")).places), 50)
        self.assertEqual(self.raised(TooMany, either, once, ring(26)).what, "places")
        self.assertEqual(self.raised(TooMany, either, ring(26), once).what, "places")
        self.assertEqual(len(either(once, ring(25)).places), 50)
        self.assertEqual(len(either(ring(25), once).places), 50)
        self.assertEqual(len(joined(once, ring(26)).places), 26)

    def test_pairs_that_no_text_leads_to_do_not_count(self):
        apart = Program("a", "", ["on", "off"] + ["p" + "abcdefghijklmnopqrstuvwxyz"[k] for k in range(26)], {}, {})
        self.assertEqual(len(joined(apart, apart).places), 1)
        self.assertEqual(len(either(apart, ring(49, "a")).places), 50)
        self.assertEqual(self.raised(TooMany, either, apart, ring(50, "a")).what, "places")


class Within(Makers):
    def test_within(self):
        table, takes = taking("ab", ["no", "yes"], ["yes"], {
            ("no", "a"): "no", ("no", "b"): "yes", ("yes", "a"): "yes",
        })
        program = within(plain("ab"), table)
        self.same(program, texts_up_to("ab", 4), lambda text: text if takes(text) else None)
        self.assertEqual(program.boxes, "X")
        self.assertEqual(told(within(program=plain("ab"), table=table), "aab"), "aab")

    def test_tables_that_take_nothing_or_all(self):
        nothing, _ = taking("ab", ["on"], [], {})
        everything, _ = taking("ab", ["on"], ["on"], {("on", "a"): "on", ("on", "b"): "on"})
        self.same(within(plain("ab"), nothing), texts_up_to("ab", 2), lambda text: None)
        self.same(within(plain("ab"), everything), texts_up_to("ab", 3), lambda text: text)
        self.same(within(NOTHING, everything), texts_up_to("ab", 2), lambda text: None)

    def test_against_what_is_told(self):
        chance = random.Random(15)
        for _ in range(100):
            program = small_program(chance, "abc"[:chance.randint(1, 3)])
            table, takes = some_table(chance, program.letters)
            made = within(program, table)
            self.assertLessEqual(len(made.boxes), len(program.boxes))
            self.same(made, texts_up_to(program.letters, 4),
                      lambda text: plainly_told(program, text) if takes(text) else None)

    def test_other_letters(self):
        table = Table("bc", ["on"], {}, [])
        self.assertEqual(self.raised(OtherLetters, within, plain("ab"), table).letter, "a")
        self.assertEqual(self.raised(OtherLetters, within, plain("b"), table).letter, "c")
        many = Table("abcdefghijklmnopqrstuvwxyz", ["on"], {}, [])
        self.assertEqual(self.raised(OtherLetters, within, plain("abcd"), many).letter, "e")

    def circle(self, many, letter):
        names = ["c" + "abcdefghijklmnopqrstuvwxyz"[k // 26] + "abcdefghijklmnopqrstuvwxyz"[k % 26]
                 for k in range(many)]
        moves = {(name, letter): names[(at + 1) % many] for at, name in enumerate(names)}
        moves.update({(name, other): name for name in names for other in "ab" if other != letter})
        return Table("ab", names, moves, names)

    def test_too_many_places(self):
        self.assertEqual(self.raised(TooMany, within, ring(5), self.circle(11, "b")).what, "places")
        self.assertEqual(len(within(ring(5), self.circle(10, "b")).places), 50)
        self.assertEqual(len(within(ring(50), self.circle(50, "a")).places), 50)
        self.assertEqual(self.raised(TooMany, within, plain("ab"), self.circle(51, "a")).what, "places")
        self.assertEqual(len(within(NOTHING, self.circle(99, "a")).places), 1)

    def test_table_stays(self):
        moves = {("on", "a"): "on"}
        good = ["on"]
        table = Table("a", ["on"], moves, good)
        program = within(plain("a"), table)
        moves.clear()
        good.clear()
        self.assertEqual(told(program, "aa"), "aa")
        self.assertEqual(told(within(plain("a"), table), "aa"), "aa")
        self.assertEqual(table.places, ("on",))


class Sizes(Makers):
    def test_five_letters_and_sorting(self):
        self.same(joined(sorting("abcde", "c"), halving("abcde")), ["", "abcde", "ccac"],
                  lambda text: told(sorting("abcde", "c"), text) + told(halving("abcde"), text))


if __name__ == "__main__":
    unittest.main()
