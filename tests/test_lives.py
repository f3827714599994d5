import unittest

from oldaddress.errors import BadLife, BadMoment, BadPolicy, BadPromise, BadWidth
from oldaddress.histories import History
from oldaddress.lands import Land
from oldaddress.lives import first_broken, front, greatest_life, kept, least_width
from oldaddress.promises import keeps
from tests.asking import Asking, example, waiting
from tests.naive import POLICIES, junk, promises, random_histories, stretches

LONG = 40
WIDTHS = (1, 2, 3, 4, 5)


class Lives(Asking):
    def test_example(self):
        history = waiting()
        self.assertEqual(greatest_life(history, "all", None), 0)
        self.same(front(history, "all"), [(0, 1), (None, 2)])
        self.same(front(history=history, policy="first"), [(None, 1)])
        self.same(kept(history, ("all", None, None)), [(0, 2)])
        self.same(kept(history=history, promise=["all", 2, None]), [(0, 4)])
        self.assertEqual(first_broken(history=history, promise=["all", None, None]), 3)
        self.assertIsNone(first_broken(history, ("all", 2, None)))

    def test_greatest_life(self):
        for naive, history in random_histories(71, 40):
            for policy in POLICIES:
                for width in (None, 1, 2):
                    for moment in range(naive.now + 1):
                        told = greatest_life(history, policy, width, moment)
                        lives = [life for life in range(LONG) if keeps(history, (policy, width, life), moment)]
                        self.assertEqual(lives, list(range(len(lives))))
                        if keeps(history, (policy, width, None), moment):
                            self.assertIsNone(told)
                        else:
                            self.assertEqual(told, len(lives) - 1)
                            ages = [naive.age(m, moment) for _, m in naive.holders(None, moment)]
                            self.assertIn(told + 1, ages)
                    now = greatest_life(history=history, policy=policy, width=width)
                    self.assertEqual(now, greatest_life(history, policy, width, naive.now))

    def test_least_width_and_front(self):
        for naive, history in random_histories(72, 60):
            for policy in POLICIES:
                for moment in range(naive.now + 1):
                    told = front(history, policy, moment)
                    self.assertEqual([w for _, w in told], sorted({w for _, w in told}))
                    lives = [life for life, _ in told if life is not None]
                    self.assertEqual(lives, sorted(set(lives)))
                    self.assertTrue(all(life is not None for life, _ in told[:-1]))
                    for life in (None, 0, 1, 2, 3, 4, 6, LONG):
                        widths = [w for w in WIDTHS if keeps(history, (policy, w, life), moment)]
                        width = least_width(history, policy, life, moment)
                        self.assertEqual(width, widths[0] if widths else None)
                        fits = [w for top, w in told if top is None or (life is not None and life <= top)]
                        self.assertEqual(width, fits[0] if fits else None)
                        if policy != "all":
                            just = keeps(history, (policy, None, life), moment)
                            self.assertIs(just, keeps(history, (policy, 1, life), moment))
                self.same(front(history, policy), front(history, policy, naive.now))
                self.same(least_width(history, policy, 1), least_width(history=history, policy=policy, life=1))

    def test_nobody_there(self):
        history = History(Land(["a", "b"], 9), [])
        self.same(front(history, "all"), [(None, 1)])
        self.assertIsNone(greatest_life(history, "all", None))
        self.assertEqual(least_width(history, "most", 0), 1)

    def test_not_even_for_0(self):
        swap = History(Land(["a", "b"], 9), [("make", "a", 1), ("make", "b", 1), ("swap", "a", "b")])
        self.assertEqual(greatest_life(swap, "first", None), -1)
        self.assertEqual(least_width(swap, "first", 0), 2)
        self.same(front(swap, "first"), [(None, 2)])
        again = History(Land(["a", "b"], 9), [("make", "a", 1), ("end", "a"), ("make", "a", 1)])
        self.assertEqual(greatest_life(again, "all", 3), -1)
        self.assertIsNone(least_width(again, "all", 0))
        self.same(front(again, "all"), [])
        later = again.then(("wait", 4))
        self.same(front(later, "all"), [(3, 1)])
        self.assertEqual(greatest_life(later, "all", None), 3)
        self.assertIsNone(least_width(later, "all", 4))

    def test_great_lives(self):
        deeds = [("make", "a", 2), ("wait", 10 ** 12), ("cut", "a", 1, "b"), ("wait", 10 ** 12), ("end", "a")]
        history = History(Land(["a", "b"], 9), deeds + [("wait", 10 ** 12), ("make", "a", 1)])
        self.assertEqual(greatest_life(history, "first", None), 10 ** 12 - 1 + 1 - 1)
        self.same(front(history, "all"), [(10 ** 12 - 1, 1)])

    def test_errors_in_their_order(self):
        history = example()
        for thing in junk():
            if thing != "all":
                self.refused(BadPolicy, thing, greatest_life, history, thing, 0, "x")
                self.refused(BadPolicy, thing, least_width, history, thing, -1, "x")
                self.refused(BadPolicy, thing, front, history, thing, "x")
            self.refused(BadPromise, thing, kept, history, thing)
            self.refused(BadPromise, thing, first_broken, history, thing)
        for thing in (0, -1, True, False, "1", [1], {}):
            self.refused(BadWidth, thing, greatest_life, history, "all", thing, "x")
        for thing in (-1, True, False, "1", [1], {}):
            self.refused(BadLife, thing, least_width, history, "all", thing, "x")
        for thing in (-1, 7, True, "1", [1], {}):
            self.refused(BadMoment, thing, greatest_life, history, "all", None, thing)
            self.refused(BadMoment, thing, least_width, history, "all", None, thing)
            self.refused(BadMoment, thing, front, history, "all", thing)


class When(Asking):
    def test_moment_by_moment(self):
        for naive, history in random_histories(73, 60):
            for promise in promises():
                good = [m for m in range(naive.now + 1) if naive.table(promise, m) is not None]
                self.same(kept(history, promise), stretches(good))
                bad = [m for m in range(naive.now + 1) if m not in good]
                self.assertEqual(first_broken(history, promise), bad[0] if bad else None)
                self.assertIn(0, good)
                for moment, deed in enumerate(naive.deeds):
                    if deed[0] == "wait" and moment in good:
                        self.assertIn(moment + 1, good)


if __name__ == "__main__":
    unittest.main()
