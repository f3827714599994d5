import random
import unittest

from oldaddress.bookhistories import book_history
from oldaddress.errors import BadLand
from oldaddress.histories import History
from oldaddress.lands import Land
from oldaddress.lazybooks import lazy_book
from oldaddress.refusals import BadBook
from tests.asking import Asking
from tests.books import all_books, in_order, naive_follow, random_books
from tests.naive import all_histories, junk, random_histories


class BookHistories(Asking):
    def check(self, land, book):
        told = book_history(land, book)
        names = land.addresses()
        ring = any(naive_follow(book, address) is None for address in book)
        none = ring or any(len(entry) > 2 for entry in book.values())
        self.assertIs(told is None, none)
        if told is not None:
            self.assertIs(type(told), History)
            self.assertEqual(told.land(), land)
            expected = {name: in_order(names, book[name]) for name in names if name in book}
            self.same(lazy_book(told), expected)
        return told

    def test_all_books_of_three(self):
        none = 0
        for book in all_books(["a", "b", "c"], 2):
            none += self.check(Land(["b", "c", "a"], 6), book) is None
        self.assertGreater(none, 10)

    def test_greater_books(self):
        none = some = 0
        for addresses, book in random_books(531, 800):
            told = self.check(Land(addresses, 2 * len(addresses)), book)
            none, some = none + (told is None), some + (told is not None)
        self.assertGreater(min(none, some), 100)

    def test_books_that_came_about(self):
        for naive, history in random_histories(532, 150):
            land = Land(naive.addresses, 2 * len(naive.addresses))
            self.assertIsNotNone(self.check(land, lazy_book(history)))

    def test_what_small_histories_come_to(self):
        met = []
        for naive, history in all_histories(["a", "b", "c"], 2, 3):
            if lazy_book(history) not in met:
                met.append(lazy_book(history))
        for book in met:
            self.assertIsNotNone(book_history(Land(["a", "b", "c"], 6), book))
        self.assertGreater(len(met), 15)

    def test_edges(self):
        land = Land(["a", "b", "c", "d"], 8)
        self.same(lazy_book(book_history(land=land, book={})), {})
        self.same(lazy_book(book_history(land, {"a": []})), {"a": ()})
        self.assertIsNone(book_history(land, {"a": ("b", "c", "d")}))
        self.assertIsNone(book_history(land, {"a": ("b",), "b": ("a",)}))
        self.assertIsNone(book_history(land, {"d": (), "a": ("b", "c"), "b": ("c",), "c": ("a",)}))
        every = {"a": ["c", "b"], "b": ("d", "c"), "c": ("d",), "d": ()}
        self.same(lazy_book(book_history(land, every)), {"a": ("b", "c"), "b": ("c", "d"), "c": ("d",), "d": ()})
        self.same(every, {"a": ["c", "b"], "b": ("d", "c"), "c": ("d",), "d": ()})

    def test_the_same_one_each_time(self):
        rng = random.Random(533)
        for addresses, book in random_books(534, 200, 2):
            land = Land(addresses, 12)
            items = [(address, rng.sample(entry, len(entry))) for address, entry in book.items()]
            other = dict(rng.sample(items, len(items)))
            self.assertEqual(book_history(land, book), book_history(land, other))

    def test_errors_in_their_order(self):
        land = Land(["a", "b"], 4)
        for thing in junk():
            if not isinstance(thing, Land):
                self.refused(BadLand, thing, book_history, thing, "x")
            if thing != {}:
                self.refused(BadBook, thing, book_history, land, thing)
        for book in ({"a": ("a",)}, {"c": ()}, {"a": ("b", "b")}, {"a": None}, {1: ()}):
            self.refused(BadBook, book, book_history, land, book)


if __name__ == "__main__":
    unittest.main()
