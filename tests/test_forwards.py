import itertools
import random
import unittest

from oldaddress.errors import BadLand, NoAddress
from oldaddress.forwards import follow, ring_of
from oldaddress.lands import Land
from oldaddress.refusals import BadBook
from tests.asking import Asking
from tests.books import all_books, in_order, naive_follow, random_books
from tests.naive import junk

LAND = Land(["a", "b", "c"], 9)


class Follows(Asking):
    def check(self, addresses, book):
        land = Land(addresses, 9)
        for address in addresses:
            arrived = naive_follow(book, address)
            told = follow(land, book, address)
            ring = ring_of(land, book, address)
            self.assertNotEqual(told is None, ring is None)
            if arrived is None:
                self.assertIsNone(told)
                self.check_ring(book, address, ring)
            else:
                self.same(told, in_order(addresses, arrived))

    def check_ring(self, book, address, ring):
        self.assertIs(type(ring), list)
        self.assertGreaterEqual(len(ring), 2)
        self.assertEqual(len(set(ring)), len(ring))
        for one, other in zip(ring, ring[1:] + ring[:1]):
            self.assertIn(other, book[one])
        met = [address]
        for one in met:
            met += [other for other in book.get(one, ()) if other not in met]
        self.assertLessEqual(set(ring), set(met))

    def test_all_books_of_three(self):
        rings = 0
        for book in all_books(["a", "b", "c"], 2):
            self.check(["c", "a", "b"], book)
            rings += follow(LAND, book, "a") is None
        self.assertGreater(rings, 10)

    def test_greater_books(self):
        for addresses, book in random_books(501, 600):
            self.check(addresses, book)

    def test_edges(self):
        self.same(follow(land=LAND, book={}, address="b"), ("b",))
        self.assertIsNone(ring_of(land=LAND, book={}, address="b"))
        self.same(follow(LAND, {"b": ()}, "b"), ())
        self.same(follow(LAND, {"b": [], "a": ["b", "c"]}, "a"), ("c",))
        self.same(follow(LAND, {"b": ("c", "a")}, "b"), ("a", "c"))
        self.same(follow(LAND, {"a": ("b",), "b": ("a",)}, "c"), ("c",))
        self.assertIn(ring_of(LAND, {"a": ("b",), "b": ("a",), "c": ("a",)}, "c"), (["a", "b"], ["b", "a"]))

    def test_the_same_ring_each_time(self):
        rng = random.Random(502)
        for addresses, book in random_books(503, 200):
            land = Land(addresses, 9)
            items = [(address, rng.sample(entry, len(entry))) for address, entry in book.items()]
            other = dict(rng.sample(items, len(items)))
            for address in addresses:
                self.same(ring_of(land, book, address), ring_of(land, other, address))
                self.same(follow(land, book, address), follow(land, other, address))

    def test_books_stay_as_they_are(self):
        book = {"c": ["b", "a"], "a": ()}
        follow(LAND, book, "c")
        ring_of(LAND, book, "c")
        self.same(book, {"c": ["b", "a"], "a": ()})
        self.same(list(book), ["c", "a"])

    def test_errors_in_their_order(self):
        bad = [
            {"a": ("a",)}, {"a": ("b", "b")}, {"a": ("d",)}, {"d": ()}, {"a": "b"}, {"a": None}, {"a": (1,)},
            {"a": (("b",),)}, {1: ()}, {"a": (), None: ()}, {"a": ("b", "c", "a")}, {"a": {"b": 1}}, [("a", ())],
        ]
        for call in (follow, ring_of):
            for thing in junk():
                if not isinstance(thing, Land):
                    self.refused(BadLand, thing, call, thing, "x", "x")
                if thing != {}:
                    self.refused(BadBook, thing, call, LAND, thing, "x")
                if thing != "a":
                    self.refused(NoAddress, thing, call, LAND, {}, thing)
                if thing not in ([], ()):
                    book = {"b": thing}
                    right = thing in (["a"], ("a",))
                    if not right:
                        self.refused(BadBook, book, call, LAND, book, "x")
            for book in bad:
                self.refused(BadBook, book, call, LAND, book, "x")
            self.refused(NoAddress, "d", call, LAND, {"a": ("b",), "b": ("a",)}, "d")


if __name__ == "__main__":
    unittest.main()
