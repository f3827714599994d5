import itertools
import random
import unittest

from oldaddress.doing import bar, free_again, is_let, let_deeds, staying, waits_for
from oldaddress.errors import BadNumbers, BadPromise, CannotBeDone
from oldaddress.histories import History, deeds_now
from oldaddress.holders import due, holders
from oldaddress.lands import Land
from oldaddress.promises import clash, is_clash, keeps
from tests.asking import Asking, waiting
from tests.naive import POLICIES, all_histories, junk, promises, random_histories

HISTORY = History(Land(["a", "b", "c"], 9), [("make", "a", 2), ("wait", 3), ("cut", "a", 1, "b")])
SWAP = ("swap", "a", "b")
PROMISE = ("first", None, 2)
CALLS = (is_let, bar, waits_for, staying)
LONG = 30


def some_deeds(rng, history, many):
    deeds = deeds_now(history, [0, 1, 2])
    return rng.sample(deeds, min(many, len(deeds))) + [("wait", 1), ("wait", rng.randint(2, 5))]


class Let(Asking):
    def test_example(self):
        self.same(bar(HISTORY, PROMISE, SWAP), (("a", 1), ("a", 4)))
        self.assertIs(is_let(history=HISTORY, promise=list(PROMISE), deed=list(SWAP)), False)
        self.assertIsNone(waits_for(HISTORY, PROMISE, SWAP))
        self.same(staying(HISTORY, PROMISE, SWAP), (("a", 3), ("a", 5)))
        self.assertIs(is_let(HISTORY, PROMISE, ("move", "a", "c")), True)
        self.assertIsNone(bar(history=HISTORY, promise=PROMISE, deed=["move", "a", "c"]))
        moved = HISTORY.then(("move", "a", "c"))
        self.same(free_again(history=moved, promise=list(PROMISE)), {"a": 3})
        self.assertEqual(waits_for(history=moved, promise=PROMISE, deed=["make", "a", 1]), 3)
        self.assertIsNone(staying(history=moved, promise=PROMISE, deed=["make", "a", 1]))

    def test_random_ones(self):
        rng = random.Random(361)
        for naive, history in random_histories(361, 60):
            for promise in rng.sample(promises(), 6):
                deeds = deeds_now(history, [0, 1, 2]) + [("wait", 1), ("wait", 4)]
                told = [deed for deed in deeds if naive.then(deed).keeps(promise)]
                for deed in deeds:
                    self.assertIs(is_let(history, promise, deed), deed in told)
                    self.same(bar(history, promise, deed), clash(history.then(deed), promise))
                self.same(let_deeds(history, promise, [0, 1, 2]), [deed for deed in told if deed[0] != "wait"])

    def test_numbers(self):
        self.same(let_deeds(history=HISTORY, promise=("all", 3, 0), numbers=[]), [
            deed for deed in deeds_now(HISTORY, []) if is_let(HISTORY, ("all", 3, 0), deed)
        ])
        told = let_deeds(HISTORY, ["first", None, 0], (5, 1, 5))
        self.same(told, [deed for deed in deeds_now(HISTORY, (5, 1, 5)) if is_let(HISTORY, ("first", None, 0), deed)])
        self.assertIn(("grow", "a", 5), told)

    def test_errors_in_their_order(self):
        for thing in junk():
            for call in CALLS:
                self.refused(BadPromise, thing, call, HISTORY, thing, "x")
                self.refused(CannotBeDone, thing, call, HISTORY, PROMISE, thing)
            self.refused(BadPromise, thing, let_deeds, HISTORY, thing, "x")
            self.refused(BadPromise, thing, free_again, HISTORY, thing)
        for deed in (("make", "a", 1), ("make", "c", 8), ("move", "a", "b"), ["end", "c"], ("cut", "a", 1, "c"), ("end", "d")):
            for call in CALLS:
                self.refused(CannotBeDone, deed, call, HISTORY, PROMISE, deed)
        for index, thing in ((0, "x"), (0, 3), (0, None), (1, [0, -1]), (2, (0, 0, True)), (0, ["1"])):
            self.refused(BadNumbers, index, let_deeds, HISTORY, PROMISE, thing)


class Waiting(Asking):
    def naive_waits(self, naive, promise, deed):
        for days in range(LONG):
            if naive.waited(days).then(deed).keeps(promise):
                return days
        return None

    def check(self, naive, history, promise, deed, waits):
        told = waits_for(history, promise, deed)
        expected = self.naive_waits(naive, promise, deed)
        self.assertEqual(told, expected)
        stays = staying(history, promise, deed)
        self.assertNotEqual(told is None, stays is None)
        life = promise[2]
        if told is None:
            later = history if life is None else history.then(("wait", life + 1))
            self.same(stays, bar(later, promise, deed))
            self.assertIs(is_clash(later.then(deed), promise, stays), True)
        elif life is None:
            self.assertEqual(told, 0)
        elif told > 0:
            days = deed[1] if deed[0] == "wait" else 0
            ages = [history.age(moment) for _, moment in holders(history, None)]
            self.assertIn(told, [life + 1 - age - days for age in ages])
            waits.append(told)
        if told is not None:
            for more in (told, told + 1, told + 5):
                self.assertIs(naive.waited(more).then(deed).keeps(promise), True)

    def test_random_ones(self):
        rng = random.Random(362)
        waits = []
        for naive, history in random_histories(362, 60, 7):
            for promise in rng.sample(promises(), 6):
                for deed in some_deeds(rng, history, 4):
                    self.check(naive, history, promise, deed, waits)
        self.assertLessEqual({1, 2, 3, 4}, set(waits))

    def test_all_small_ones(self):
        waits = []
        for naive, history in all_histories(["a", "b"], 2, 3):
            for promise in (("all", None, 1), ("first", 1, 0), ("most", 2, None)):
                for deed in naive.small_steps():
                    self.check(naive, history, promise, deed, waits)
        self.assertLessEqual({1, 2}, set(waits))

    def test_a_wait_that_is_done_later(self):
        deeds = [("make", "a", 1), ("end", "a"), ("make", "a", 1), ("wait", 2)]
        history = History(Land(["a", "b"], 9), deeds)
        self.assertEqual(waits_for(history, ("all", None, 9), ("wait", 1)), 7)
        self.assertEqual(waits_for(history, ("all", None, 9), ("wait", 7)), 1)
        self.assertEqual(waits_for(history, ("all", None, 9), ("wait", 8)), 0)
        self.assertEqual(waits_for(history, ("all", None, 9), ("wait", 100)), 0)
        self.assertEqual(waits_for(history, ("all", None, 9), ("grow", "a", 1)), 8)
        self.assertIsNone(waits_for(history, ("all", None, None), ("wait", 8)))
        self.same(staying(history, ("all", None, None), ("wait", 8)), (("a", 1), ("a", 3)))

    def test_great_lives(self):
        n = 10 ** 12
        history = History(Land(["a", "b"], 9), [("make", "a", 1), ("wait", 5), ("end", "a")])
        self.assertEqual(waits_for(history, ("all", None, n), ("make", "a", 1)), n + 1)
        self.same(free_again(history, ("all", None, n)), {"a": n + 1, "b": 0})


class FreeAgain(Asking):
    def test_random_ones(self):
        rng = random.Random(363)
        found = set()
        for naive, history in random_histories(363, 120):
            for promise in rng.sample(promises(), 8):
                told = free_again(history, promise)
                if history.many() == history.land().most():
                    self.same(told, {})
                    continue
                expected = {}
                for address in naive.addresses:
                    if not naive.rows[-1][address]:
                        expected[address] = waits_for(history, promise, ("make", address, 1))
                self.same(told, expected)
                self.assertEqual(list(told), list(expected))
                if promise[1] is None and naive.keeps(promise):
                    found |= self.check_ages(naive, promise, told)
        self.assertEqual(found, {"nobody", "somebody", "for ever"})

    def check_ages(self, naive, promise, told):
        found = set()
        life = promise[2]
        for address, days in told.items():
            ages = [naive.age(moment, naive.now) for a, moment in naive.holders(life, naive.now) if a == address]
            if not ages:
                self.assertEqual(days, 0)
                found.add("nobody")
            elif life is None:
                self.assertIsNone(days)
                found.add("for ever")
            else:
                self.assertEqual(days, life + 1 - min(ages))
                found.add("somebody")
        return found

    def test_as_many_pieces_as_may_live(self):
        history = History(Land(["a", "b", "c"], 2), [("make", "a", 1), ("move", "a", "b")])
        self.same(free_again(history, ("all", None, 1)), {"a": 2, "c": 0})
        self.same(free_again(history.then(("grow", "b", 1)), ("all", None, 1)), {})

    def test_not_kept_now(self):
        deeds = [("make", "a", 1), ("end", "a"), ("make", "a", 1), ("wait", 1)]
        history = History(Land(["a", "b"], 9), deeds)
        self.same(free_again(history, ("all", None, 2)), {"b": 2})
        self.same(free_again(history, ("all", None, None)), {"b": None})


class WhatBreaksIt(Asking):
    """[6.10], of "all" and "first" with width None, where the promise is kept."""

    def test_it_holds(self):
        rng = random.Random(364)
        seen = set()
        for naive, history in itertools.chain(random_histories(364, 150), all_histories(["a", "b"], 2, 3)):
            for promise in itertools.product(("all", "first"), (None,), (None, 0, 1, 2)):
                if keeps(history, promise):
                    deeds = deeds_now(history, [0, 1, 2]) + [("wait", rng.randint(1, 3))]
                    for deed in rng.sample(deeds, min(8, len(deeds))):
                        kept = keeps(history.then(deed), promise)
                        self.check(history, promise, deed, kept)
                        seen.add((deed[0], kept))
        for word in ("make", "move"):
            self.assertLessEqual({(word, True), (word, False)}, seen)

    def check(self, history, promise, deed, kept):
        policy, _, life = promise
        word = deed[0]
        served = holders(history, life)
        if word in ("grow", "pour", "wait"):
            self.assertIs(kept, True)
        elif word == "make":
            self.assertIs(kept, not any(address == deed[1] for address, _ in served))
        elif word == "move":
            dues = [due(history, holder, policy) for holder in served if holder[0] == deed[2]]
            self.assertIs(kept, all(told == (deed[1],) for told in dues))
        elif word == "swap" or (word == "cut" and policy == "all"):
            self.assertIs(kept, False)

    def test_who_is_in_one_lot_stays_so(self):
        """[6.9], of "all" and "first"."""
        words = ("make", "grow", "move", "swap", "pour", "wait")
        for naive, history in random_histories(365, 40, 7):
            for deed in deeds_now(history, [1]) + [("wait", 2)]:
                if deed[0] not in words:
                    continue
                later = history.then(deed)
                for policy in ("all", "first"):
                    for life in (None, 2):
                        ahead = {h: due(history, h, policy) for h in holders(history, life)}
                        behind = {h: due(later, h, policy) for h in holders(later, life) if h in ahead}
                        for one, other in itertools.combinations(behind, 2):
                            if one[0] == other[0] and ahead[one] == ahead[other]:
                                self.assertEqual(behind[one], behind[other])

    def test_waiting_never_breaks_one_that_is_kept(self):
        for naive, history in random_histories(366, 40):
            for policy in POLICIES:
                for promise in ((policy, None, 2), (policy, 1, None), (policy, 2, 1)):
                    if keeps(history, promise):
                        self.assertIs(is_let(history, promise, ("wait", 1)), True)
                        self.assertEqual(waits_for(history, promise, ("wait", 3)), 0)


if __name__ == "__main__":
    unittest.main()
