import itertools
import unittest

from oldaddress.errors import BadHolder, BadLife, BadMoment
from oldaddress.forwards import follow
from oldaddress.histories import History
from oldaddress.lands import Land
from oldaddress.lazybooks import cause, first_misled, how_led, lazy_book, right_book
from oldaddress.neededentries import needed
from oldaddress.promises import clash, table
from tests.asking import Asking
from tests.books import all_books, comes_by, in_order, naive_follow, naive_lazy_book
from tests.naive import all_histories, junk, random_histories

LIVES = (None, 0, 1, 2, 4)
DEEDS = [("make", "a", 4), ("make", "d", 1), ("split", "a", 2, "b", "c"), ("pour", "c", "d"), ("drop", "d", 1, 2)]
EXAMPLE = History(Land(["a", "b", "c", "d"], 9), DEEDS)


def some_histories():
    return itertools.chain(random_histories(511, 150, 10), all_histories(["b", "a"], 2, 3))


def led(naive, address, moment):
    return in_order(naive.addresses, naive_follow(naive_lazy_book(naive, moment), address))


def naive_word(naive, holder, moment):
    arrived, due = led(naive, holder[0], moment), naive.due(holder, "all", moment)
    for word, holds in (
        ("right", arrived == due), ("stranger", due == ()), ("gone", arrived == ()),
        ("more", set(due) <= set(arrived)), ("less", set(arrived) <= set(due)),
    ):
        if holds:
            return word
    return "other"


class LazyBooks(Asking):
    def test_deed_by_deed(self):
        for naive, history in some_histories():
            for moment in range(naive.now + 1):
                told = lazy_book(history, moment)
                self.same(told, naive_lazy_book(naive, moment))
                ever = {a for m in range(moment + 1) for a, row in naive.rows[m].items() if row}
                free = {a for a, row in naive.rows[moment].items() if not row}
                self.assertEqual(set(told), ever & free)
                for address in ever:
                    arrived = follow(history.land(), told, address)
                    self.assertTrue(all(naive.rows[moment][other] for other in arrived))
            self.same(lazy_book(history=history), lazy_book(history, naive.now))

    def test_example(self):
        self.same(lazy_book(EXAMPLE, 4), {"a": ("b", "c"), "c": ("d",)})
        self.assertEqual(how_led(EXAMPLE, ("a", 1), 4), "right")
        self.assertEqual(how_led(history=EXAMPLE, holder=["a", 1]), "more")
        self.assertEqual(how_led(EXAMPLE, ("c", 3)), "stranger")
        self.assertEqual(cause(EXAMPLE, ("a", 1)), 5)
        self.assertEqual(cause(history=EXAMPLE, holder=["c", 3]), 5)
        self.assertIsNone(cause(EXAMPLE, ("a", 1), 4))
        self.same(first_misled(history=EXAMPLE, life=None), ("a", 1))
        self.same(needed(EXAMPLE, None), ["a", "c"])
        self.same(right_book(history=EXAMPLE, life=None), {"a": ("b",), "c": ()})

    def test_each_deed(self):
        land = Land(["c", "a", "b"], 9)
        make = [("make", "a", 3)]
        for deeds, expected in (
            ([("grow", "a", 1)], {}), ([("move", "a", "b")], {"a": ("b",)}), ([("cut", "a", 1, "b")], {}),
            ([("split", "a", 1, "b", "c")], {"a": ("c", "b")}), ([("drop", "a", 0, 3)], {"a": ()}),
            ([("drop", "a", 0, 2)], {}), ([("end", "a")], {"a": ()}), ([("wait", 1)], {}),
            ([("make", "b", 1), ("pour", "a", "b")], {"a": ("b",)}), ([("make", "b", 1), ("swap", "a", "b")], {}),
            ([("move", "a", "b"), ("cut", "b", 1, "a")], {}), ([("move", "a", "b"), ("make", "a", 1)], {}),
            ([("move", "a", "b"), ("move", "b", "a")], {"b": ("a",)}),
            ([("end", "a"), ("make", "b", 2), ("split", "b", 1, "a", "c")], {"b": ("c", "a")}),
        ):
            self.same(lazy_book(History(land, make + deeds)), expected)

    def test_new_dicts_each_time(self):
        told = lazy_book(EXAMPLE)
        told.clear()
        self.assertEqual(len(lazy_book(EXAMPLE)), 2)

    def test_errors(self):
        for thing in (-1, 6, True, "1", [1], {}):
            self.refused(BadMoment, thing, lazy_book, EXAMPLE, thing)


class Led(Asking):
    def test_words(self):
        words = set()
        for naive, history in some_histories():
            for moment in range(naive.now + 1):
                for holder in naive.holders(None, moment):
                    told = how_led(history, holder, moment)
                    self.assertEqual(told, naive_word(naive, holder, moment))
                    words.add(told)
        self.assertEqual(words, {"right", "stranger", "gone", "more", "less", "other"})

    def test_first_misled(self):
        for naive, history in some_histories():
            for life in LIVES:
                for moment in range(naive.now + 1):
                    wrong = [h for h in naive.holders(life, moment) if naive_word(naive, h, moment) != "right"]
                    told = first_misled(history, life, moment)
                    self.same(told, wrong[0] if wrong else None)
                self.same(first_misled(history, life), first_misled(history, life, naive.now))

    def test_causes(self):
        seen = set()
        for naive, history in some_histories():
            for holder in naive.holders(None, naive.now):
                words = {m: naive_word(naive, holder, m) for m in range(holder[1], naive.now + 1)}
                for moment in words:
                    expected = moment + 1
                    while words[expected - 1] != "right":
                        expected -= 1
                    told = cause(history, holder, moment)
                    self.assertEqual(told, None if expected > moment else expected)
                    if told is not None:
                        seen.add(self.check_deed(naive, holder, told))
        self.assertEqual(seen, {"swap", "cut", "split", "drop", "make", "move"})

    def check_deed(self, naive, holder, moment):
        deed = naive.deeds[moment - 1]
        if deed[0] in ("make", "move"):
            book = naive_lazy_book(naive, moment - 1)
            filled = deed[1] if deed[0] == "make" else deed[2]
            self.assertIn(filled, book)
            self.assertTrue(comes_by(book, holder[0], filled))
        return deed[0]

    def test_gentle_histories_lead_right(self):
        """Of make, grow, move, pour, end and wait that give nothing to an address whose entry is needed."""
        right = 0
        for naive, history in some_histories():
            for life in LIVES:
                good = True
                for moment, deed in enumerate(naive.deeds):
                    good = good and deed[0] in ("make", "grow", "move", "pour", "end", "wait")
                    filled = [a for a in naive.addresses if not naive.rows[moment][a] and naive.rows[moment + 1][a]]
                    good = good and not set(filled) & set(needed(history, life, moment))
                if good:
                    self.assertIsNone(first_misled(history, life))
                    right += naive.now > 2
        self.assertGreater(right, 50)

    def test_errors_in_their_order(self):
        for call in (how_led, cause):
            for thing in junk():
                if thing != ["a", 1]:
                    self.refused(BadHolder, thing, call, EXAMPLE, thing, "x")
            for thing in (-1, 6, True, "1", [1], {}, 2):
                self.refused(BadMoment, thing, call, EXAMPLE, ("b", 3), thing)
        for call in (first_misled, right_book):
            for thing in (-1, True, False, "1", [1], {}):
                self.refused(BadLife, thing, call, EXAMPLE, thing, "x")
            for thing in (-1, 6, True, "1", [1], {}):
                self.refused(BadMoment, thing, call, EXAMPLE, None, thing)


class RightBooks(Asking):
    def test_just_one(self):
        none = some = 0
        for naive, history in some_histories():
            for life in LIVES:
                for moment in (naive.now, naive.now // 2):
                    told = right_book(history, life, moment)
                    self.assertNotEqual(told is None, clash(history, ("all", None, life), moment) is None)
                    if told is None:
                        none += 1
                        continue
                    entries = table(history, ("all", None, life), moment)
                    expected = {a: entry for a, entry in entries.items() if entry != (a,)}
                    self.same(told, expected)
                    self.assertEqual(list(told), list(expected))
                    for address, moment_learned in naive.holders(life, moment):
                        arrived = follow(history.land(), told, address)
                        self.same(arrived, naive.due((address, moment_learned), "all", moment))
                    if first_misled(history, life, moment) is None:
                        for address, entry in entries.items():
                            self.assertEqual(led(naive, address, moment), entry)
                    some += told != {}
        self.assertGreater(min(none, some), 100)

    def test_fewest_entries_of_all_books(self):
        for naive, history in random_histories(512, 120, 6):
            if len(naive.addresses) > 3:
                continue
            for life in (None, 1):
                comers = naive.comers("all", life, naive.now)
                right = []
                for book in all_books(naive.addresses, 2):
                    flat = all(other not in book for entry in book.values() for other in entry)
                    if flat and all(naive_follow(book, h[0]) == set(due) for h, due in comers):
                        right.append(book)
                told = right_book(history, life)
                if not right:
                    self.assertIsNone(told)
                else:
                    fewest = min(map(len, right))
                    self.assertEqual([book for book in right if len(book) == fewest], [told])


if __name__ == "__main__":
    unittest.main()
