import itertools
import unittest

from oldaddress.errors import BadLife, BadMoment, NoAddress
from oldaddress.histories import History
from oldaddress.lands import Land
from oldaddress.neededentries import needed, needed_days, who_needs
from tests.asking import Asking
from tests.books import comes_by, naive_follow, naive_lazy_book
from tests.naive import all_histories, junk, random_histories
from tests.test_lazybooks import EXAMPLE

LIVES = (None, 0, 1, 2, 4)


def some_histories():
    return itertools.chain(random_histories(521, 120, 10), all_histories(["b", "a"], 2, 3))


def those_who_need(naive, address, life, moment):
    book = naive_lazy_book(naive, moment)
    return [h for h in naive.holders(life, moment) if address in book and comes_by(book, h[0], address)]


class Needed(Asking):
    def test_who_needs(self):
        for naive, history in some_histories():
            for life in LIVES:
                for moment in range(naive.now + 1):
                    found = {a: those_who_need(naive, a, life, moment) for a in naive.addresses}
                    self.same(needed(history, life, moment), [a for a in naive.addresses if found[a]])
                    for address, told in found.items():
                        self.same(who_needs(history, address, life, moment), told[0] if told else None)
                self.same(needed(history=history, life=life), needed(history, life, naive.now))
                for address in naive.addresses:
                    told = who_needs(history=history, address=address, life=life)
                    self.same(told, who_needs(history, address, life, naive.now))

    def test_without_the_others_all_are_led_as_ahead(self):
        struck = wanted = 0
        for naive, history in some_histories():
            for life in LIVES:
                book = naive_lazy_book(naive, naive.now)
                told = needed(history, life)
                fewer = {address: entry for address, entry in book.items() if address in told}
                struck += len(fewer) < len(book)
                for address, _ in naive.holders(life, naive.now):
                    self.assertEqual(naive_follow(fewer, address), naive_follow(book, address))
                for address in told:
                    wanted += 1
                    rest = {other: entry for other, entry in book.items() if other != address}
                    one = who_needs(history, address, life)
                    self.assertIn(address, naive_follow(rest, one[0]))
                    self.assertEqual(naive.rows[-1][address], [])
        self.assertGreater(min(struck, wanted), 40)

    def test_days(self):
        found = set()
        for naive, history in some_histories():
            for life in LIVES:
                for address in naive.addresses:
                    told = needed_days(history, address, life)
                    right = [n for n in range(8) if not those_who_need(naive.waited(n), address, life, naive.now + (n > 0))]
                    self.assertEqual(told, right[0] if right else None)
                    if life is None:
                        self.assertIn(told, (0, None))
                    else:
                        self.assertEqual(right, list(range(told, 8)))
                    found.add(told)
        self.assertLessEqual({None, 0, 1, 2, 3, 4, 5}, found)

    def test_example(self):
        self.same(needed(EXAMPLE, None), ["a", "c"])
        self.same(who_needs(EXAMPLE, "c", None), ("a", 1))
        self.assertIsNone(who_needs(EXAMPLE, "b", None))
        self.assertEqual(needed_days(history=EXAMPLE, address="c", life=3), 4)
        self.assertEqual(needed_days(EXAMPLE, "b", 3), 0)
        self.assertIsNone(needed_days(EXAMPLE, "c", None))

    def test_great_lives(self):
        n = 10 ** 12
        history = History(Land(["a", "b"], 9), [("make", "a", 1), ("wait", 7), ("move", "a", "b"), ("wait", n)])
        self.assertEqual(needed_days(history, "a", 3 * n), 2 * n + 1)
        self.assertEqual(needed_days(history, "a", n - 1), 0)

    def test_errors_in_their_order(self):
        for thing in junk():
            if thing != "a":
                self.refused(NoAddress, thing, who_needs, EXAMPLE, thing, "x", "x")
                self.refused(NoAddress, thing, needed_days, EXAMPLE, thing, "x")
        for thing in (-1, True, False, "1", [1], {}):
            self.refused(BadLife, thing, needed, EXAMPLE, thing, "x")
            self.refused(BadLife, thing, who_needs, EXAMPLE, "a", thing, "x")
            self.refused(BadLife, thing, needed_days, EXAMPLE, "a", thing)
        for thing in (-1, 6, True, "1", [1], {}):
            self.refused(BadMoment, thing, needed, EXAMPLE, None, thing)
            self.refused(BadMoment, thing, who_needs, EXAMPLE, "a", None, thing)


if __name__ == "__main__":
    unittest.main()
