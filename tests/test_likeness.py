import random
import unittest

from oldaddress.errors import BadHolder, BadLife, BadMoment
from oldaddress.histories import History, deeds_now
from oldaddress.holders import due, holders, living
from oldaddress.lands import Land
from oldaddress.likeness import alike_lots, are_alike, deeds_apart
from tests.asking import Asking, example
from tests.naive import POLICIES, all_histories, junk, random_histories


class Alike(Asking):
    def check_apart(self, history, one, other):
        deeds = deeds_apart(history, one, other)
        self.assertIs(type(deeds), list)
        later = history
        for deed in deeds:
            self.assertNotEqual(deed[0], "wait")
            self.assertIs(type(deed), tuple)
            later = later.then(deed)
        self.assertNotEqual(due(later, one, "first"), due(later, other, "first"))

    def check(self, naive, history):
        told = holders(history, None)
        for one in told:
            for other in told:
                alike = naive.living(one, naive.now) == naive.living(other, naive.now)
                self.assertIs(are_alike(history, one, other), alike)
                if alike:
                    self.assertIsNone(deeds_apart(history, one, other))
                else:
                    self.check_apart(history, one, other)

    def test_just_one(self):
        for naive, history in random_histories(51, 150):
            self.check(naive, history)

    def test_just_one_of_small_ones_all(self):
        for naive, history in all_histories(["a", "b"], 3, 3):
            self.check(naive, history)

    def test_the_same_pieces_in_unlike_orders(self):
        rng = random.Random(55)
        unlike = 0
        for _ in range(60):
            most = rng.choice((4, 9, 10 ** 6))
            addresses = ["c", "a", "b"][:rng.choice((2, 3, 3))]
            history = History(Land(addresses, most), [("make", "a", most)])
            for _ in range(rng.randint(2, 12)):
                deeds = deeds_now(history, [1, 2, 3, most // 2, most - 2])
                words = [rng.choice(("cut", "pour", "move"))]
                deeds = [deed for deed in deeds if deed[0] in words] or [("wait", 1)]
                history = history.then(rng.choice(deeds))
            whole = [h for h in holders(history, None) if sum(b - a + 1 for a, b in living(history, h)) == most]
            for one in whole:
                for other in whole:
                    if living(history, one) != living(history, other):
                        unlike += 1
                        self.assertIs(are_alike(history, one, other), False)
                        self.check_apart(history, one, other)
        self.assertGreater(unlike, 50)

    def test_orders_that_begin_or_end_alike(self):
        turns = [("cut", "a", 2, "b"), ("cut", "b", 1, "c"), ("pour", "c", "a"), ("pour", "b", "a")]
        again = [("cut", "a", 4, "b"), ("cut", "b", 1, "c"), ("pour", "c", "a"), ("pour", "b", "a")]
        later = [("cut", "a", 3, "b"), ("cut", "b", 3, "c"), ("pour", "c", "a"), ("pour", "b", "a"), ("wait", 1)]
        for deeds in (turns, turns + again, turns + later, again + turns, later + again + turns, again + later):
            history = History(Land(["a", "b", "c"], 9), [("make", "a", 7)] + deeds)
            whole = [h for h in holders(history, None) if sum(b - a + 1 for a, b in living(history, h)) == 7]
            self.assertGreater(len({tuple(living(history, holder)) for holder in whole}), 1)
            for one in whole:
                for other in whole:
                    if living(history, one) != living(history, other):
                        self.check_apart(history, one, other)

    def test_alike_ones_stay_alike(self):
        for naive, history in random_histories(52, 40):
            pairs = [(a, b) for a in holders(history, None) for b in holders(history, None)]
            pairs = [(a, b) for a, b in pairs if a < b and are_alike(history, a, b)]
            for deed in deeds_now(history, [0, 1, 2]) + [("wait", 1)]:
                later = history.then(deed)
                for one, other in pairs:
                    self.assertIs(are_alike(later, one, other), True)
                    for policy in POLICIES:
                        self.assertEqual(due(later, one, policy), due(later, other, policy))

    def test_example(self):
        history = example()
        self.assertIs(are_alike(history, ("a", 1), ("b", 4)), False)
        self.assertIs(are_alike(history=history, one=["a", 2], other=("a", 3)), True)
        self.check_apart(history, ("a", 1), ("b", 4))
        self.assertIsNone(deeds_apart(history=history, one=("a", 2), other=("a", 3)))

    def test_great_rows(self):
        n = 10 ** 12
        deeds = [("make", "a", n), ("cut", "a", n // 3, "b"), ("wait", 1), ("pour", "a", "b"), ("drop", "b", 5, 7)]
        history = History(Land(["a", "b"], n), deeds)
        for one in holders(history, None):
            for other in holders(history, None):
                if living(history, one) == living(history, other):
                    self.assertIsNone(deeds_apart(history, one, other))
                else:
                    self.check_apart(history, one, other)

    def test_errors_in_their_order(self):
        history = example()
        for call in (are_alike, deeds_apart):
            for thing in junk():
                if thing != ["a", 1]:
                    self.refused(BadHolder, thing, call, history, thing, "x")
                    self.refused(BadHolder, thing, call, history, ("a", 1), thing)


class Lots(Asking):
    def test_all(self):
        for naive, history in random_histories(53, 100):
            for moment in range(naive.now + 1):
                for life in (None, 0, 2):
                    lots = {}
                    for holder in naive.holders(life, moment):
                        lots.setdefault(tuple(naive.living(holder, moment)), []).append(holder)
                    self.same(alike_lots(history, life, moment), list(lots.values()))
            self.same(alike_lots(history=history, life=1), alike_lots(history, 1, naive.now))

    def test_lots_only_come_together(self):
        for naive, history in random_histories(54, 60):
            for moment, deed in enumerate(naive.deeds):
                behind = alike_lots(history, None, moment + 1)
                for lot in alike_lots(history, None, moment):
                    self.assertEqual(sum(set(lot) <= set(later) for later in behind), 1)
                if deed[0] not in ("drop", "end"):
                    old = [[h for h in lot if h[1] <= moment] for lot in behind]
                    self.same(sorted([lot for lot in old if lot]), sorted(alike_lots(history, None, moment)))

    def test_errors_in_their_order(self):
        for thing in (-1, True, "1", [1], {}):
            self.refused(BadLife, thing, alike_lots, example(), thing, "x")
            self.refused(BadMoment, thing, alike_lots, example(), None, thing)


if __name__ == "__main__":
    unittest.main()
