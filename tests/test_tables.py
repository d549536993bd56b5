"""Point 15, as far as programs within tables need it: tables and their checks."""

import unittest

from textboxes.errors import BadTable, BoxError
from textboxes.tables import Table

RIGHT = ("ba", ["on", "off"], {("on", "a"): "off", ("off", "b"): "on"}, ["off"])


class Tables(unittest.TestCase):
    def wrong(self, *parts):
        with self.assertRaises(BadTable) as caught:
            Table(*parts)
        self.assertIsInstance(caught.exception, BoxError)
        return caught.exception.place

    def test_properties(self):
        table = Table(*RIGHT)
        self.assertEqual(table.letters, "ab")
        self.assertEqual(table.places, ("on", "off"))
        self.assertEqual(table.good, ("off",))

    def test_step(self):
        table = Table(letters="ba", places=("on", "off"), moves=RIGHT[2], good=("off",))
        self.assertEqual(table.step("on", "a"), "off")
        self.assertEqual(table.step(place="off", letter="b"), "on")
        self.assertIsNone(table.step("on", "b"))
        self.assertIsNone(table.step("off", "a"))

    def test_good_places(self):
        places = ["one", "two", "three"]
        self.assertEqual(Table("a", places, {}, ["three", "one", "three"]).good, ("one", "three"))
        self.assertEqual(Table("a", places, {}, []).good, ())
        self.assertEqual(Table("a", places, {}, places[::-1]).good, tuple(places))

    def test_many_places(self):
        names = ["".join(sign) for sign in zip("ab" * 3000, "abc" * 2000, *["abcdefgh" * 750] * 3)]
        names = list(dict.fromkeys(names))
        table = Table("abcdefghijklmnopqrstuvwxyz", names, {(name, "z"): names[0] for name in names}, names)
        self.assertEqual(table.step(names[-1], "z"), names[0])

    def test_what_is_passed_may_be_changed(self):
        places, moves, good = list(RIGHT[1]), dict(RIGHT[2]), list(RIGHT[3])
        table = Table("ab", places, moves, good)
        places.append("more")
        moves[("on", "a")] = "on"
        good.append("on")
        self.assertEqual([table.places, table.good, table.step("on", "a")], [("on", "off"), ("off",), "off"])
        Table("ab", places, moves, good)
        self.assertEqual([places, good], [["on", "off", "more"], ["off", "on"]])

    def test_wrong_letters(self):
        for letters in ["", "aa", "A", "a b", "abcdefghijklmnopqrstuvwxyza", None, 1, ["a"], ("a", "b"), b"a", "-"]:
            self.assertEqual(self.wrong(letters, *RIGHT[1:]), "letters")
            self.assertEqual(self.wrong(letters, None, None, None), "letters")
        Table("zyxwvutsrqponmlkjihgfedcba", *RIGHT[1:])

    def test_wrong_places(self):
        for places in [[], (), ["on", "on"], ["On"], [""], ["abcdefghi"], ["on", 1], "on", None, {"on": 1}, [["on"]]]:
            self.assertEqual(self.wrong("ab", places, {}, []), "places")
            self.assertEqual(self.wrong("ab", places, None, None), "places")

    def test_wrong_moves(self):
        wrong = [
            None, [], [(("on", "a"), "off")], {"on": "off"}, {("on",): "off"}, {("on", "a", "a"): "off"},
            {("on", "c"): "off"}, {("no", "a"): "off"}, {("on", "a"): "no"}, {("on", "a"): None}, {("on", "ab"): "off"},
            {("on", ""): "off"}, {("on", 1): "off"}, {(1, "a"): "off"}, {("on", "a"): ["off"]}, {1: "off"},
            {("on", "a"): "off", ("on", "b"): ("off", {})}, {"oa": "off"},
        ]
        for moves in wrong:
            self.assertEqual(self.wrong("ab", ["on", "off"], moves, []), "moves")
            self.assertEqual(self.wrong("ab", ["on", "off"], moves, None), "moves")

    def test_wrong_good_places(self):
        for good in [None, "on", {"on": True}, {"on"}, ["no"], ["on", None], [["on"]], [("on",)], 1, [True], ["o"]]:
            self.assertEqual(self.wrong("ab", ["on", "off"], {}, good), "good")

    def test_not_equal_to_other_values(self):
        table = Table(*RIGHT)
        for other in [None, "on", 1, [], RIGHT]:
            self.assertFalse(table == other)
            self.assertTrue(table != other)


if __name__ == "__main__":
    unittest.main()
