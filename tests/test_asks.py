import itertools
import random
import unittest

from oldaddress.asks import is_served_lot, least_within, served_lot, serving, too_much
from oldaddress.errors import BadAsks, BadLife, BadPromise, BadWithin, CannotBeDone
from oldaddress.histories import History, deeds_now
from oldaddress.lands import Land
from tests.asking import Asking
from tests.naive import Naive, all_deeds, junk, promises, random_deeds, random_histories

PROMISE = ("first", None, 1)
HISTORY = History(Land(["a", "b"], 1), [("make", "a", 1)])
MOVES = [("move", "a", "b"), ("move", "b", "a")]
AGAIN = [("end", "a"), ("make", "a", 1)]


def search(naive, asks, promise, within):
    """The first shortest list that asks too much, None if there is none, and those to each state, way by way."""
    life = promise[2]
    met = {naive.state(life): []}
    queue = [([], naive)]
    for way, ahead in queue:
        for index, deed in enumerate(asks):
            if ahead.can(deed):
                later = ahead.waited(within).then(deed)
                if not later.keeps(promise):
                    return way + [index], met
                if later.state(life) not in met:
                    met[later.state(life)] = way + [index]
                    queue.append((way + [index], later))
    return None, met


def random_asks(seed, count):
    """Tuples (naive history, asks, promise)."""
    rng = random.Random(seed)
    for _ in range(count):
        addresses, most = rng.choice(((["a", "b"], 1), (["b", "a"], 2), (["c", "a", "b"], 1), (["a", "c", "b"], 2)))
        naive = Naive(addresses, most, random_deeds(rng, addresses, most, rng.randint(0, 4), 2))
        deeds = all_deeds(addresses, range(most + 1))
        words = sorted({deed[0] for deed in deeds})
        asks = []
        for word in rng.choices(words + ["move", "move", "make", "end"], k=rng.randint(1, 4)):
            deed = rng.choice([deed for deed in deeds if deed[0] == word])
            if deed not in asks:
                asks.append(deed)
        promise = (rng.choice(("all", "first", "most")), rng.choice((None, 1, 2)), rng.choice((0, 1, 1, 2)))
        yield naive, asks, promise


class Serving(Asking):
    def test_random_ones(self):
        rng = random.Random(411)
        found = set()
        for naive, history in random_histories(411, 80, 7):
            for promise in rng.sample(promises(), 4):
                deeds = deeds_now(history, [0, 1, 2])
                for deed in rng.sample(deeds, min(3, len(deeds))) + [("wait", rng.randint(1, 3))]:
                    within = rng.choice((0, 1, 2, 3, 6))
                    right = [w for w in range(9) if naive.waited(w).then(deed).keeps(promise)]
                    expected = right[0] if right and right[0] <= within else None
                    self.assertEqual(serving(history, deed, promise, within), expected)
                    self.assertEqual(right, list(range(right[0], 9)) if right else [])
                    found.add(expected)
        self.assertLessEqual({None, 0, 1, 2, 3}, found)

    def test_edges(self):
        ended = HISTORY.then(("end", "a"))
        self.assertIsNone(serving(history=ended, deed=["make", "a", 1], promise=list(PROMISE), within=1))
        self.assertEqual(serving(ended, ("make", "a", 1), PROMISE, 2), 2)
        self.assertEqual(serving(ended, ("make", "a", 1), PROMISE, 10 ** 15), 2)
        self.assertIsNone(serving(ended, ("make", "a", 1), ("first", None, None), 10 ** 15))
        broken = History(Land(["a", "b"], 1), [("make", "a", 1), ("end", "a"), ("make", "a", 1)])
        self.assertEqual(serving(broken, ("move", "a", "b"), PROMISE, 5), 2)
        self.assertEqual(serving(broken, ("wait", 1), PROMISE, 5), 1)

    def test_errors_in_their_order(self):
        for thing in junk():
            self.refused(CannotBeDone, thing, serving, HISTORY, thing, "x", "x")
            self.refused(BadPromise, thing, serving, HISTORY, MOVES[0], thing, "x")
        for thing in (-1, True, False, None, "1", [1], {}):
            self.refused(BadWithin, thing, serving, HISTORY, MOVES[0], PROMISE, thing)
        self.refused(CannotBeDone, MOVES[1], serving, HISTORY, MOVES[1], PROMISE, 1)


class ForEver(Asking):
    def test_example(self):
        self.assertEqual(least_within(HISTORY, MOVES, PROMISE), 0)
        self.same(too_much(HISTORY, AGAIN, PROMISE, 1), [0, 1])
        self.assertEqual(least_within(history=HISTORY, asks=tuple(map(list, AGAIN)), promise=list(PROMISE)), 2)
        self.same(served_lot(HISTORY, AGAIN, PROMISE, 2), [[], [0]])

    def test_just_one(self):
        found = set()
        for naive, asks, promise in random_asks(412, 160):
            history = naive.told()
            for within in range(4):
                way, met = search(naive, asks, promise, within)
                told = too_much(history, asks, promise, within)
                lot = served_lot(history, asks, promise, within)
                self.same(told, way)
                if way is None:
                    self.same(lot, list(met.values()))
                    self.assertIs(is_served_lot(history, asks, promise, within, lot), True)
                else:
                    self.assertIsNone(lot)
                    ahead = [way[:many] for many in range(len(way))]
                    self.assertIs(is_served_lot(history, asks, promise, within, ahead), False)
                    self.assertIs(is_served_lot(history, asks, promise, within, ahead + [way]), False)
                found.add((within, None if way is None else min(len(way), 3)))
        self.assertLessEqual({(0, 1), (0, 2), (0, 3), (0, None), (1, 1), (1, 3), (2, None)}, found)

    def test_all_lists_of_asks(self):
        """Those of up to four, however one comes to the same by them."""
        for naive, asks, promise in random_asks(413, 60):
            for within in (0, 1, 2):
                expected = None
                for many in range(1, 5):
                    for indexes in itertools.product(range(len(asks)), repeat=many):
                        if expected is None and self.asks_too_much(naive, asks, promise, within, indexes):
                            expected = list(indexes)
                told = too_much(naive.told(), asks, promise, within)
                if expected is not None or (told is not None and len(told) <= 4):
                    self.same(told, expected)

    def asks_too_much(self, naive, asks, promise, within, indexes):
        for place, index in enumerate(indexes):
            if not naive.can(asks[index]):
                return False
            naive = naive.waited(within).then(asks[index])
            if not naive.keeps(promise):
                return place == len(indexes) - 1
        return False

    def test_least_within(self):
        found = set()
        for naive, asks, promise in random_asks(414, 120):
            right = [w for w in range(promise[2] + 4) if search(naive, asks, promise, w)[0] is None]
            told = least_within(naive.told(), asks, promise)
            self.assertEqual(told, right[0] if right else None)
            self.assertTrue(told is None or told <= promise[2] + 1)
            found.add(told)
        self.assertLessEqual({None, 0, 1, 2}, found)

    def test_asks_that_can_never_be_done(self):
        self.assertIsNone(too_much(HISTORY, [("swap", "a", "b")], PROMISE, 0))
        self.same(served_lot(HISTORY, [("swap", "a", "b")], PROMISE, 0), [[]])
        self.assertEqual(least_within(HISTORY, [("make", "b", 10 ** 9)], PROMISE), 0)

    def test_broken_now(self):
        broken = History(Land(["a", "b"], 1), [("make", "a", 1), ("end", "a"), ("make", "a", 1)])
        self.same(too_much(broken, MOVES, PROMISE, 1), [0])
        self.assertIsNone(too_much(broken, MOVES, PROMISE, 2))
        self.same(served_lot(broken, MOVES, PROMISE, 2)[0], [])
        self.same(too_much(broken, [("make", "a", 1)], PROMISE, 0), None)


class ServedLots(Asking):
    def lot(self):
        return served_lot(HISTORY, MOVES, PROMISE, 1)

    def told(self, thing):
        return is_served_lot(HISTORY, MOVES, PROMISE, 1, thing)

    def test_what_is_none(self):
        lot = self.lot()
        self.assertGreater(len(lot), 2)
        self.assertIs(is_served_lot(history=HISTORY, asks=MOVES, promise=PROMISE, within=1, thing=lot[::-1]), True)
        self.assertIs(self.told(tuple(map(tuple, lot))), True)
        self.assertIs(self.told(lot + lot), True)
        self.assertIs(self.told(lot + [[0, 1, 0, 1, 0, 1]]), True)
        for index in range(len(lot)):
            self.assertIs(self.told(lot[:index] + lot[index + 1:]), False)
        for way in ([1], [0, 0], [2], [-1], [True], ["0"], [0, None], [None], 0, None, "0", [[0]]):
            self.assertIs(self.told(lot + [way]), False, way)

    def test_what_is_not_served(self):
        self.assertIs(is_served_lot(HISTORY, AGAIN, PROMISE, 1, [[], [0]]), False)
        self.assertIs(is_served_lot(HISTORY, AGAIN, PROMISE, 1, [[], [0], [0, 1]]), False)
        self.assertIs(is_served_lot(HISTORY, AGAIN, PROMISE, 2, served_lot(HISTORY, AGAIN, PROMISE, 2)), True)
        self.assertIs(is_served_lot(HISTORY, AGAIN, PROMISE, 2, []), False)
        self.assertIs(is_served_lot(HISTORY, [("swap", "a", "b")], PROMISE, 0, [[]]), True)

    def test_any_object(self):
        lot = self.lot()
        for thing in junk():
            self.assertIs(self.told(thing), False)
            self.assertIs(self.told(lot + [thing]), thing in ([], ()))
            if thing != 0:
                self.assertIs(self.told(lot + [[thing]]), False)

    def test_errors_in_their_order(self):
        calls = (
            lambda asks, promise, within: too_much(HISTORY, asks, promise, within),
            lambda asks, promise, within: served_lot(HISTORY, asks, promise, within),
            lambda asks, promise, within: is_served_lot(HISTORY, asks, promise, within, []),
        )
        least = lambda asks, promise, within: least_within(HISTORY, asks, promise)
        make = ("make", "a", 1)
        for call in calls + (least,):
            for thing in junk():
                self.refused(BadAsks, 0, call, thing if not isinstance(thing, (list, tuple)) else [], "x", "x")
                self.refused(BadAsks, 1, call, [make, thing, thing], "x", "x")
                self.refused(BadPromise, thing, call, [make], thing, "x")
            self.refused(BadAsks, 0, call, (), "x", "x")
            self.refused(BadAsks, 2, call, [make, ("end", "a"), ["make", "a", 1]], "x", "x")
            self.refused(BadAsks, 1, call, [make, ("wait", 1), ("wait", 1)], "x", "x")
            self.refused(BadAsks, 0, call, [("make", "c", 1)], "x", "x")
            self.refused(BadLife, None, call, [make], ("all", 1, None), "x")
        for call in calls:
            for thing in (-1, True, False, None, "1", [1], {}):
                self.refused(BadWithin, thing, call, [make], PROMISE, thing)


if __name__ == "__main__":
    unittest.main()
