"""Point 15: tables, their checks, and what is made of them."""

import random
import unittest

from tests.made import Kit, in_shape_of_least, plainly_taken, shortest_of, small_table, texts_up_to
from textboxes.errors import BadTable, BoxError
from textboxes.signs import LETTERS
from textboxes.tables import Table, are_alike

RIGHT = ("ba", ["on", "off"], {("on", "a"): "off", ("off", "b"): "on"}, ["off"])


class Tables(unittest.TestCase):
    def wrong(self, *parts):
        with self.assertRaises(BadTable) as caught:
            Table(*parts)
        self.assertIsInstance(caught.exception, BoxError)
        return caught.exception.place

    def test_properties(self):
        table = Table(*RIGHT)
        self.assertEqual(table.letters, "ab")
        self.assertEqual(table.places, ("on", "off"))
        self.assertEqual(table.good, ("off",))

    def test_step(self):
        table = Table(letters="ba", places=("on", "off"), moves=RIGHT[2], good=("off",))
        self.assertEqual(table.step("on", "a"), "off")
        self.assertEqual(table.step(place="off", letter="b"), "on")
        self.assertIsNone(table.step("on", "b"))
        self.assertIsNone(table.step("off", "a"))

    def test_good_places(self):
        places = ["one", "two", "three"]
        self.assertEqual(Table("a", places, {}, ["three", "one", "three"]).good, ("one", "three"))
        self.assertEqual(Table("a", places, {}, []).good, ())
        self.assertEqual(Table("a", places, {}, places[::-1]).good, tuple(places))

    def test_many_places(self):
        names = ["".join(sign) for sign in zip("ab" * 3000, "abc" * 2000, *["abcdefgh" * 750] * 3)]
        names = list(dict.fromkeys(names))
        table = Table("abcdefghijklmnopqrstuvwxyz", names, {(name, "z"): names[0] for name in names}, names)
        self.assertEqual(table.step(names[-1], "z"), names[0])

    def test_what_is_passed_may_be_changed(self):
        places, moves, good = list(RIGHT[1]), dict(RIGHT[2]), list(RIGHT[3])
        table = Table("ab", places, moves, good)
        places.append("more")
        moves[("on", "a")] = "on"
        good.append("on")
        self.assertEqual([table.places, table.good, table.step("on", "a")], [("on", "off"), ("off",), "off"])
        Table("ab", places, moves, good)
        self.assertEqual([places, good], [["on", "off", "more"], ["off", "on"]])

    def test_wrong_letters(self):
        for letters in ["", "aa", "A", "a b", "abcdefghijklmnopqrstuvwxyza", None, 1, ["a"], ("a", "b"), b"a", "-"]:
            self.assertEqual(self.wrong(letters, *RIGHT[1:]), "letters")
            self.assertEqual(self.wrong(letters, None, None, None), "letters")
        Table("zyxwvutsrqponmlkjihgfedcba", *RIGHT[1:])

    def test_wrong_places(self):
        for places in [[], (), ["on", "on"], ["On"], [""], ["abcdefghi"], ["on", 1], "on", None, {"on": 1}, [["on"]]]:
            self.assertEqual(self.wrong("ab", places, {}, []), "places")
            self.assertEqual(self.wrong("ab", places, None, None), "places")

    def test_wrong_moves(self):
        wrong = [
            None, [], [(("on", "a"), "off")], {"on": "off"}, {("on",): "off"}, {("on", "a", "a"): "off"},
            {("on", "c"): "off"}, {("no", "a"): "off"}, {("on", "a"): "no"}, {("on", "a"): None}, {("on", "ab"): "off"},
            {("on", ""): "off"}, {("on", 1): "off"}, {(1, "a"): "off"}, {("on", "a"): ["off"]}, {1: "off"},
            {("on", "a"): "off", ("on", "b"): ("off", {})}, {"oa": "off"},
        ]
        for moves in wrong:
            self.assertEqual(self.wrong("ab", ["on", "off"], moves, []), "moves")
            self.assertEqual(self.wrong("ab", ["on", "off"], moves, None), "moves")

    def test_wrong_good_places(self):
        for good in [None, "on", {"on": True}, {"on"}, ["no"], ["on", None], [["on"]], [("on",)], 1, [True], ["o"]]:
            self.assertEqual(self.wrong("ab", ["on", "off"], {}, good), "good")

    def test_ways(self):
        moves = {("off", "b"): "on", ("on", "b"): "on", ("on", "a"): "off"}
        table = Table("ba", ["on", "off"], moves, [])
        self.assertEqual(list(table.ways().items()), [(("on", "a"), "off"), (("on", "b"), "on"), (("off", "b"), "on")])
        self.assertEqual(Table("a", ["on"], {}, []).ways(), {})

    def test_ways_are_new(self):
        table = Table(*RIGHT)
        table.ways()[("on", "b")] = "on"
        table.ways().clear()
        self.assertEqual(table.ways(), RIGHT[2])
        self.assertEqual([table.takes("a"), table.takes("b")], [True, False])

    def test_equal(self):
        table = Table(*RIGHT)
        self.assertTrue(table == Table("ab", ("on", "off"), dict(reversed(RIGHT[2].items())), ("off", "off")))
        self.assertFalse(table != Table(*RIGHT))
        for other in [
            Table("abc", *RIGHT[1:]),
            Table("ab", ["off", "on"], *RIGHT[2:]),
            Table("ab", ["on", "off", "more"], *RIGHT[2:]),
            Table("ab", ["on", "off"], {("on", "a"): "off"}, ["off"]),
            Table("ab", ["on", "off"], {**RIGHT[2], ("on", "a"): "on"}, ["off"]),
            Table(*RIGHT[:3], ["on"]),
            Table(*RIGHT[:3], []),
        ]:
            self.assertFalse(table == other)
            self.assertTrue(table != other)

    def test_not_equal_to_other_values(self):
        table = Table(*RIGHT)
        for other in [None, "on", 1, [], RIGHT, object()]:
            self.assertFalse(table == other)
            self.assertTrue(table != other)

    def test_takes(self):
        table = Table(*RIGHT)
        for text, expected in [("", False), ("a", True), ("ab", False), ("aba", True), ("b", False), ("aa", False)]:
            self.assertIs(table.takes(text), expected)
        for text in ["A", "a ", "ac", "a\n", "-", "aa" * 5000]:
            self.assertIs(table.takes(text), False)
        self.assertIs(table.takes(text="aba" + "ba" * 5000), True)


def ring(many, good, letters="a", step=1):
    """A table of so many places in a ring: each letter leads on, some places are good."""
    names = [f"p{LETTERS[k // 26]}{LETTERS[k % 26]}" for k in range(many)]
    moves = {(name, letter): names[(at + step) % many] for at, name in enumerate(names) for letter in letters}
    return Table(letters, names, moves, [names[k] for k in good])


NOTHING = Table("ab", ["on", "off"], {("on", "a"): "off"}, [])
EVERYTHING = Table("ab", ["on"], {("on", "a"): "on", ("on", "b"): "on"}, ["on"])
EMPTY_TEXT = Table("ab", ["on"], {}, ["on"])


class LeastKit(Kit):
    def least(self, table, letters, takes, most=6):
        """Check that a table is a least one, and what it takes."""
        self.assertEqual(table.letters, letters)
        self.assertTrue(in_shape_of_least(table), table.ways())
        self.assertEqual(table, table.least())
        for text in texts_up_to(letters, most):
            self.assertEqual(table.takes(text), takes(text), text)


class Least(LeastKit):
    def test_one_place(self):
        self.assertEqual(EVERYTHING.least(), Table("ab", ["a"], {("a", "a"): "a", ("a", "b"): "a"}, ["a"]))
        self.assertEqual(EMPTY_TEXT.least(), Table("ab", ["a"], {}, ["a"]))
        self.assertEqual(Table("b", ["z"], {("z", "b"): "z"}, []).least(), Table("b", ["a"], {}, []))

    def test_nothing(self):
        nothing = Table("ab", ["a"], {}, [])
        unreached = Table("ab", ["on", "off"], {("off", "a"): "off"}, ["off"])
        for table in [NOTHING, unreached, EVERYTHING.others(), NOTHING.both(EVERYTHING), NOTHING.either(unreached)]:
            self.assertEqual(table.least(), nothing)

    def test_places_that_are_not_reached_or_lead_nowhere(self):
        moves = {("x", "a"): "trap", ("x", "b"): "y", ("trap", "a"): "trap", ("y", "b"): "y", ("z", "a"): "y"}
        table = Table("ab", ["x", "trap", "y", "z"], moves, ["y", "z"])
        self.assertEqual(table.least(), Table("ab", ["a", "b"], {("a", "b"): "b", ("b", "b"): "b"}, ["b"]))

    def test_a_good_place_told_twice(self):
        table = Table("a", ["one", "two"], {("one", "a"): "two", ("two", "a"): "one"}, ["two", "one", "two"])
        self.assertEqual(table.least(), Table("a", ["a"], {("a", "a"): "a"}, ["a"]))

    def test_order_of_places(self):
        moves = {("s", "b"): "t", ("s", "a"): "u", ("u", "a"): "v", ("t", "a"): "s", ("v", "b"): "t"}
        table = Table("ab", ["s", "t", "u", "v"], moves, ["t", "v"]).least()
        self.assertEqual(list(table.ways().items()), [
            (("a", "a"), "b"), (("a", "b"), "c"), (("b", "a"), "d"), (("c", "a"), "a"), (("d", "b"), "c"),
        ])
        self.assertEqual(table.good, ("c", "d"))

    def test_names_go_on_behind_z(self):
        table = ring(100, [0]).least()
        self.assertEqual(table.places[24:29], ("y", "z", "aa", "ab", "ac"))
        self.assertEqual(table.places[51:54], ("az", "ba", "bb"))
        self.assertEqual(table.places[99], "cv")
        self.assertEqual(len(ring(100, [0, 50]).least().places), 50)
        self.assertEqual(len(ring(100, range(0, 100, 4)).least().places), 4)
        self.assertTrue(in_shape_of_least(table))

    def test_26_letters(self):
        table = ring(30, [7, 22], LETTERS).least()
        self.assertEqual(table, ring(15, [7], LETTERS).least())
        self.assertEqual([table.letters, len(table.places), len(table.ways())], [LETTERS, 15, 15 * 26])
        self.assertEqual(table.shortest(), "a" * 7)

    def test_least_tables_against_what_is_taken(self):
        chance = random.Random(40)
        for _ in range(300):
            table = small_table(chance, "ba"[:chance.randint(1, 2)], 5)
            self.least(table.least(), table.letters, table.takes)
            self.assertTrue(all(table.takes(text) == plainly_taken(table, text) for text in texts_up_to("abc", 3)))

    def test_alike_tables_have_the_same_least_one(self):
        chance = random.Random(41)
        answers = {True: 0, False: 0}
        for _ in range(400):
            letters = "ab"[:chance.randint(1, 2)]
            one, other = small_table(chance, letters, 3), small_table(chance, letters, 3)
            same = all(one.takes(text) == other.takes(text) for text in texts_up_to(letters, 6))
            self.assertEqual(one.least() == other.least(), same)
            self.assertEqual(are_alike(one, other) is None, same)
            answers[same] += 1
        self.assertGreater(min(answers.values()), 20)

    def test_tables_with_very_many_places(self):
        one, other = ring(99, [0], "ab"), ring(100, [0], "ab")
        whole = one.both(other)
        self.assertEqual(len(whole.places), 9900)
        self.assertEqual(whole.places[-1], "npt")
        self.assertEqual(whole.good, ("a",))
        self.assertTrue(whole == other.both(one))
        self.assertEqual(len(ring(99, [98]).both(ring(100, [99])).shortest()), 9899)
        self.assertIsNone(are_alike(one.either(other), other.either(one)))
        random_ones = []
        chance = random.Random(42)
        for _ in range(2):
            names = list(ring(100, []).places)
            moves = {(name, letter): chance.choice(names) for name in names for letter in LETTERS}
            random_ones.append(Table(LETTERS, names, moves, chance.sample(names, 50)))
        whole = random_ones[0].either(random_ones[1])
        for _ in range(300):
            text = "".join(chance.choices(LETTERS, k=chance.randrange(40)))
            self.assertEqual(whole.takes(text), any(table.takes(text) for table in random_ones))


class OfTables(LeastKit):
    def test_shortest(self):
        self.assertIsNone(NOTHING.shortest())
        self.assertEqual(EVERYTHING.shortest(), "")
        self.assertEqual(ring(100, [99], "ba").shortest(), "a" * 99)
        moves = {("s", "b"): "t", ("s", "a"): "u", ("u", "b"): "v", ("t", "a"): "v"}
        self.assertEqual(Table("ab", ["s", "t", "u", "v"], moves, ["v"]).shortest(), "ab")
        chance = random.Random(43)
        for _ in range(200):
            table = small_table(chance, "abc"[:chance.randint(1, 3)])
            expected = shortest_of([text for text in texts_up_to(table.letters, 4) if table.takes(text)])
            self.assertEqual(table.shortest(), expected)

    def test_both_either_others(self):
        chance = random.Random(44)
        for _ in range(150):
            letters = "ab"[:chance.randint(1, 2)]
            one, other = small_table(chance, letters, 3), small_table(chance, letters, 3)
            self.least(one.both(other), letters, lambda text: one.takes(text) and other.takes(text), 5)
            self.least(one.either(other), letters, lambda text: one.takes(text) or other.takes(text), 5)
            self.least(one.others(), letters, lambda text: not one.takes(text), 5)

    def test_unlike_letters(self):
        chance = random.Random(45)
        for _ in range(100):
            one, other = small_table(chance, "ab", 3), small_table(chance, chance.choice(["bc", "c", "b"]), 3)
            letters = "".join(sorted(set(one.letters + other.letters)))
            self.least(one.both(other), letters, lambda text: one.takes(text) and other.takes(text), 4)
            self.least(one.either(other), letters, lambda text: one.takes(text) or other.takes(text), 4)
            expected = shortest_of([text for text in texts_up_to(letters, 5) if one.takes(text) != other.takes(text)])
            self.assertEqual(are_alike(one, other), expected)

    def test_letters_that_are_never_read(self):
        self.assertEqual(EMPTY_TEXT.both(Table("xz", ["on"], {}, ["on"])), Table("abxz", ["a"], {}, ["a"]))
        self.assertIsNone(are_alike(EMPTY_TEXT, Table("xz", ["on"], {}, ["on"])))
        self.assertEqual(are_alike(EVERYTHING, Table("ac", ["on"], {("on", "a"): "on"}, ["on"])), "b")
        self.assertEqual(EMPTY_TEXT.others(), Table("ab", ["a", "b"], {
            (place, letter): "b" for place in "ab" for letter in "ab"
        }, ["b"]))

    def test_first_text_that_one_takes(self):
        self.assertEqual(are_alike(ring(6, [5], "ab"), ring(6, [4, 5], "ab")), "aaaa")
        self.assertIsNone(are_alike(ring(6, [1, 3, 5], "ab"), ring(2, [1], "ab")))
        self.assertEqual(len(are_alike(ring(99, [98]), ring(100, [98]))), 197)
        self.assertEqual(are_alike(NOTHING, EVERYTHING), "")

    def test_by_name(self):
        self.assertEqual(EVERYTHING.both(other=EMPTY_TEXT), EMPTY_TEXT.least())
        self.assertEqual(EMPTY_TEXT.either(other=EVERYTHING), EVERYTHING.least())
        self.assertEqual(are_alike(other=EMPTY_TEXT, one=EVERYTHING), "a")

    def test_tables_stay(self):
        table = Table(*RIGHT)
        for made in [table.least(), table.both(table), table.either(EVERYTHING), table.others()]:
            self.assertIsInstance(made, Table)
        table.shortest()
        self.assertEqual(table, Table(*RIGHT))


if __name__ == "__main__":
    unittest.main()
