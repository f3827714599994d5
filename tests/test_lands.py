import unittest

from oldaddress.errors import BadAddresses, BadMost
from oldaddress.histories import History
from oldaddress.lands import Land, is_deed
from tests.asking import Asking
from tests.naive import all_deeds, junk


class Lands(Asking):
    def test_told(self):
        names = ["b2", "a", "abcdefg8"]
        land = Land(addresses=names, most=10 ** 15)
        names.append("x")
        self.same(land.addresses(), ["b2", "a", "abcdefg8"])
        self.assertEqual(land.most(), 10 ** 15)
        land.addresses().append("y")
        self.same(land.addresses(), ["b2", "a", "abcdefg8"])
        self.same(Land(("a", "b"), 1).addresses(), ["a", "b"])

    def test_equal(self):
        land = Land(["a", "b"], 3)
        self.assertTrue(land == Land(("a", "b"), 3))
        self.assertFalse(land != Land(("a", "b"), 3))
        for other in (Land(["b", "a"], 3), Land(["a", "b"], 4), Land(["a", "b", "c"], 3), History(land, [])):
            self.assertFalse(land == other)
        for thing in junk():
            self.assertIs(land == thing, False)

    def test_bad_addresses(self):
        for names, index in [
            ([], 0), ((), 0), (["a"], 1), (["a", "a"], 1), (["a", "b", "a"], 2), (["a", "B"], 1), ([""], 0),
            (["a", "b", "abcdefghi"], 2), (["1a", "b"], 0), (["a", "b_"], 1), (["a", "\u00e4"], 1),
            (["a", "a\u0662"], 1), (["a", 1], 1), ([["a"], "b"], 0), (["a", None], 1), ([True, "a"], 0),
            (["a", "b", "c", {}], 3), (["a", "b\n"], 1), (["a", "b c"], 1), (["a", "aB"], 1), ([1], 0),
        ]:
            self.refused(BadAddresses, index, Land, names, 1)
            self.refused(BadAddresses, index, Land, tuple(names), 0)
        for thing in ("ab", None, 5, {"a": 1, "b": 2}, True, len, Land(["a", "b"], 1)):
            self.refused(BadAddresses, 0, Land, thing, 1)

    def test_bad_most(self):
        for most in (0, -1, True, False, None, "1", [1], {}, 10 ** 20 * -1):
            self.refused(BadMost, most, Land, ["a", "b"], most)


class Deeds(Asking):
    land = Land(["b", "a", "c", "d"], 3)

    def test_forms(self):
        for deed in all_deeds(["b", "a", "c", "d"], [0, 1, 2, 10 ** 12]) + [("wait", 1), ("wait", 10 ** 12)]:
            self.assertIs(is_deed(self.land, deed), True)
            self.assertIs(is_deed(self.land, list(deed)), True)
            self.assertIs(is_deed(self.land, deed + (1,)), False)
            self.assertIs(is_deed(self.land, deed[:-1]), False)

    def test_wrong_parts(self):
        for deed in [
            ("make", "a", 0), ("make", "x", 1), ("make", "a", True), ("make", "a", "1"), ("grow", "a", -1),
            ("move", "a", "a"), ("move", "a", "x"), ("swap", "b", "b"), ("pour", "a", "a"), ("pour", ["a"], "b"),
            ("cut", "a", 0, "b"), ("cut", "a", 1, "a"), ("cut", "a", True, "b"), ("cut", "a", None, "b"),
            ("split", "a", 1, "b", "b"), ("split", "a", 1, "a", "b"), ("split", "a", 1, "b", "a"),
            ("split", "a", 0, "b", "c"), ("drop", "a", -1, 1), ("drop", "a", 0, 0), ("drop", "a", False, 1),
            ("drop", "a", 0, True), ("end", "x"), ("end", {}), ("wait", 0), ("wait", -1), ("wait", True),
            ("waits", 1), (["wait"], 1), (None, 1), ("", 1), "wait", "end",
        ]:
            self.assertIs(is_deed(land=self.land, thing=deed), False)

    def test_any_object(self):
        for thing in junk():
            self.assertIs(is_deed(self.land, thing), thing == ["wait", 1])


if __name__ == "__main__":
    unittest.main()
