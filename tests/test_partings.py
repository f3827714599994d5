import itertools
import unittest

from oldaddress.errors import BadLife, BadMoment, NoAddress
from oldaddress.histories import History
from oldaddress.lands import Land
from oldaddress.partings import apart_in, finest_parting, is_tie, tie
from tests.asking import Asking, example
from tests.naive import junk, random_histories

LIVES = (None, 0, 1, 3)


def naive_joins(naive, life, moment):
    return {holder: {holder[0], *naive.due(holder, "all", moment)} for holder in naive.holders(life, moment)}


def naive_lots(naive, life, moment):
    """Lots put together as long as a holder joins two."""
    lots = [{address} for address in naive.addresses]
    for joined in naive_joins(naive, life, moment).values():
        touched = [lot for lot in lots if lot & joined]
        lots = [lot for lot in lots if not lot & joined] + [set().union(*touched)]
    found = [[address for address in naive.addresses if address in lot] for lot in lots]
    return sorted(found, key=lambda lot: naive.addresses.index(lot[0]))


def goes(joins, one, other, holders):
    """Whether one can go along holders, address by address."""
    if not holders:
        return one == other
    joined = joins.get(holders[0], set())
    return one in joined and any(goes(joins, there, other, holders[1:]) for there in joined)


def parts(lots):
    return {address: index for index, lot in enumerate(lots) for address in lot}


def all_partings(names):
    """All ways to part addresses into lots."""
    if not names:
        yield []
        return
    for lots in all_partings(names[1:]):
        yield [[names[0]]] + lots
        for index in range(len(lots)):
            yield lots[:index] + [[names[0]] + lots[index]] + lots[index + 1:]


class Parted(Asking):
    def test_example(self):
        self.same(finest_parting(example(), 0), [["a", "b"], ["c"]])
        self.same(tie(example(), 0, "a", "b"), [("a", 3)])
        self.same(apart_in(example(), 0, "a", "b"), 1)

    def test_finest(self):
        sizes = set()
        for naive, history in random_histories(1840, 60):
            for life in LIVES:
                for moment in [None, *range(naive.now + 1)]:
                    told = finest_parting(history, life, moment)
                    self.same(told, naive_lots(naive, life, naive.now if moment is None else moment))
                    sizes.add(len(naive.addresses) - len(told))
        self.assertLessEqual({0, 1, 2, 3}, sizes)

    def test_lots_of_each_even_one_are_made_of_its_lots(self):
        for naive, history in random_histories(1841, 40):
            finest = finest_parting(history, None)
            at = parts(finest)
            joins = naive_joins(naive, None, naive.now).values()
            even = []
            for lots in all_partings(naive.addresses):
                where = parts(lots)
                if all(len({where[address] for address in joined}) == 1 for joined in joins):
                    even.append(lots)
                    for lot in lots:
                        for address, other in itertools.product(lot, naive.addresses):
                            self.assertTrue(at[address] != at[other] or other in lot)
            self.assertEqual(max(len(lots) for lots in even), len(finest))

    def test_just_one_of_apart_or_tied(self):
        lengths = set()
        for naive, history in random_histories(1842, 50):
            for life, moment in itertools.product((None, 1), [None, *range(naive.now + 1)]):
                at = naive.now if moment is None else moment
                joins = naive_joins(naive, life, at)
                where = parts(naive_lots(naive, life, at))
                for one, other in itertools.product(naive.addresses, repeat=2):
                    told = tie(history, life, one, other, moment)
                    self.assertEqual(told is None, where[one] != where[other])
                    if told is None:
                        continue
                    self.assertIs(type(told), list)
                    self.assertTrue(goes(joins, one, other, told))
                    self.assertIs(is_tie(history, life, one, other, told, moment), True)
                    self.assertEqual(told == [], one == other)
                    lengths.add(len(told))
                    for shorter in itertools.product(joins, repeat=len(told) - 1) if 1 < len(told) < 4 else ():
                        self.assertFalse(goes(joins, one, other, list(shorter)))
                    if len(told) == 1:
                        self.assertNotEqual(one, other)
        self.assertLessEqual({0, 1, 2}, lengths)

    def test_is_tie(self):
        met = set()
        for naive, history in random_histories(1843, 25, 6):
            joins = naive_joins(naive, 2, naive.now)
            for many in (0, 1, 2):
                for holders in itertools.product(list(joins)[:7], repeat=many):
                    for one, other in itertools.product(naive.addresses[:3], repeat=2):
                        expected = goes(joins, one, other, list(holders))
                        self.assertIs(is_tie(history, 2, one, other, holders), expected)
                        met.add((expected, many))
        self.assertEqual(len(met), 6)

    def test_any_object(self):
        history = example()
        for thing in junk():
            self.assertIs(is_tie(history, 0, "a", "b", thing), False)
            self.assertIs(is_tie(history, 0, "a", "b", [("a", 3), thing]), False)
            self.assertIs(is_tie(history, None, "a", "b", [thing]), thing == ["a", 1])
            self.assertIs(is_tie(history, 0, "c", "c", thing), thing == [] or thing == ())
        for thing, expected in (([("a", 3)], True), ([["a", 3]], True), ((("a", 3),), True), ([("a", 2)], False),
                                ([("a", 3)] * 9, True), ([("a", 6)], False), ([("a", 6), ("a", 3), ("b", 6)], True),
                                ([("b", 6), ("a", 3)], False), ([], False), ([("a", 4)], False), ([("a", 3, 1)], False)):
            self.assertIs(is_tie(history, 0, "a", "b", thing), expected)
        self.assertIs(is_tie(moment=None, thing=[("b", 6), ("a", 3)], other="a", one="b", life=0, history=history), True)
        self.assertIs(is_tie(history, 0, "b", "a", [("b", 6)]), False)
        self.assertIs(is_tie(history, 0, "b", "b", [("b", 6), ("b", 6)]), True)
        self.same(tie(history, 0, "c", "c"), [])

    def test_apart_in(self):
        met = set()
        for naive, history in random_histories(1844, 60, 6):
            for life in LIVES:
                lots = [naive_lots(naive.waited(days), life, naive.waited(days).now) for days in range((life or 0) + 4)]
                for one, other in itertools.product(naive.addresses, repeat=2):
                    apart = [days for days, told in enumerate(lots) if parts(told)[one] != parts(told)[other]]
                    expected = apart[0] if apart else None
                    self.same(apart_in(history, life, one, other), expected)
                    self.assertEqual(expected is None, not apart)
                    if apart:
                        self.assertEqual(apart, list(range(apart[0], len(lots))))
                    met.add(expected)
                    if one == other:
                        self.assertIsNone(expected)
        self.assertLessEqual({None, 0, 1, 2, 3, 4}, met)

    def test_great_lives(self):
        history = History(Land(["a", "b"], 9), [("make", "a", 2), ("wait", 10 ** 11), ("move", "a", "b")])
        self.same(apart_in(history, 10 ** 12, "b", "a"), 10 ** 12 + 1)
        self.same(apart_in(history, 0, "b", "a"), 1)
        self.assertIsNone(apart_in(one="a", other="b", life=None, history=history))

    def test_told_anew(self):
        history = example()
        finest_parting(history=history, life=0, moment=None)[0].clear()
        tie(history=history, life=0, one="a", other="b", moment=None).clear()
        self.same(finest_parting(history, 0), [["a", "b"], ["c"]])
        self.same(tie(history, 0, "a", "b"), [("a", 3)])

    def test_errors_in_their_order(self):
        history = example()
        for thing in junk():
            if not (thing is None or type(thing) is int and thing >= 0):
                self.refused(BadLife, thing, finest_parting, history, thing, "x")
                self.refused(BadLife, thing, tie, history, thing, "x", "x", "x")
                self.refused(BadLife, thing, is_tie, history, thing, "x", "x", None, "x")
                self.refused(BadLife, thing, apart_in, history, thing, "x", "x")
            if thing != "a":
                self.refused(NoAddress, thing, tie, history, 0, thing, None, "x")
                self.refused(NoAddress, thing, is_tie, history, 0, thing, None, None, "x")
                self.refused(NoAddress, thing, apart_in, history, 0, thing, None)
                self.refused(NoAddress, thing, tie, history, 0, "c", thing, "x")
                self.refused(NoAddress, thing, is_tie, history, 0, "c", thing, None, "x")
                self.refused(NoAddress, thing, apart_in, history, 0, "c", thing)
            if thing is not None and not (type(thing) is int and 0 <= thing <= 6):
                self.refused(BadMoment, thing, finest_parting, history, 0, thing)
                self.refused(BadMoment, thing, tie, history, 0, "a", "b", thing)
                self.refused(BadMoment, thing, is_tie, history, 0, "a", "b", None, thing)


if __name__ == "__main__":
    unittest.main()
