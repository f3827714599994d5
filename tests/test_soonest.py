import itertools
import random
import unittest

from oldaddress.doing import waits_for
from oldaddress.errors import BadDeeds, BadLife, BadPolicy, BadPromise, CannotBeDone
from oldaddress.histories import History, deeds_now
from oldaddress.lands import Land
from oldaddress.lives import greatest_life, least_width
from oldaddress.promises import keeps
from oldaddress.soonest import remedies, soonest, stuck_at
from oldaddress.states import state
from tests.asking import Asking
from tests.naive import POLICIES, junk, promises, random_histories

HISTORY = History(Land(["a", "b", "c"], 9), [("make", "a", 2), ("wait", 3), ("cut", "a", 1, "b")])
SWAP = ("swap", "a", "b")
PROMISE = ("first", None, 2)


def random_wishes(rng, naive, many):
    """Deeds that could be done one behind another, now and then one that can not."""
    deeds = []
    for _ in range(many):
        can = [deed for deed in naive.small_steps() if deed[0] != "wait"]
        if can and rng.random() < 0.9:
            # Without some weight most wishes make what there is no room for any more, and nothing else.
            words = sorted({deed[0] for deed in can})
            word = rng.choice(words)
            deeds.append(rng.choice([deed for deed in can if deed[0] == word]))
            naive = naive.then(deeds[-1])
        else:
            deeds.append(rng.choice([("move", naive.addresses[0], naive.addresses[1]), ("end", naive.addresses[-1])]))
    return deeds


class Soonest(Asking):
    def test_example(self):
        move, make = ("move", "a", "c"), ["make", "a", 1]
        self.same(soonest(HISTORY, PROMISE, [move, make]), [0, 3])
        self.assertIsNone(stuck_at(history=HISTORY, promise=PROMISE, deeds=(move, make)))
        self.assertIsNone(soonest(history=HISTORY, promise=list(PROMISE), deeds=(list(move), make, SWAP)))
        self.assertEqual(stuck_at(HISTORY, PROMISE, [move, make, SWAP]), 2)
        self.same(soonest(HISTORY, PROMISE, []), [])
        self.assertIsNone(stuck_at(HISTORY, PROMISE, ()))
        self.assertEqual(stuck_at(HISTORY, PROMISE, [make, SWAP]), 0)
        self.assertEqual(stuck_at(HISTORY, PROMISE, [move, move]), 1)

    def ways(self, naive, promise, deeds, most):
        """All ways to wait at most so many days ahead of each deed: the days by which each that is let is done."""
        found = [((), naive)]
        ends = []
        for deed in deeds:
            longer = []
            for days, ahead in found:
                is_stuck = True
                for more in range(most + 1):
                    if ahead.can(deed):
                        later = ahead.waited(more).then(deed)
                        if later.keeps(promise):
                            longer.append((days + (more,), later))
                            is_stuck = False
                if is_stuck:
                    ends.append(days)
            found = longer
        return [days for days, _ in found], ends

    def test_no_way_is_earlier(self):
        rng = random.Random(371)
        lengths, waited = set(), set()
        for naive, history in random_histories(371, 150, 6):
            promise = rng.choice([p for p in promises() if p[2] in (None, 0, 1, 2)])
            deeds = random_wishes(rng, naive, rng.randint(1, 3))
            told = soonest(history, promise, deeds)
            stuck = stuck_at(history, promise, deeds)
            self.assertNotEqual(told is None, stuck is None)
            ways, ends = self.ways(naive, promise, deeds, 4)
            if told is not None:
                self.assertIn(tuple(told), ways)
                for days in ways:
                    for first, other in zip(itertools.accumulate(told), itertools.accumulate(days)):
                        self.assertLessEqual(first, other)
                waited |= set(told)
            else:
                self.assertEqual(ways, [])
                self.assertTrue(all(len(days) <= stuck for days in ends))
                self.assertEqual(max(map(len, ends)), stuck)
                self.same(soonest(history, promise, deeds[:stuck]) is not None, True)
            lengths.add((len(deeds), stuck))
        self.assertLessEqual({(3, None), (3, 0), (3, 1), (3, 2), (2, None)}, lengths)
        self.assertLessEqual({0, 1, 2, 3}, waited)

    def test_each_is_waited_for_in_its_turn(self):
        rng = random.Random(372)
        for naive, history in random_histories(372, 60, 6):
            promise = rng.choice(promises())
            deeds = random_wishes(rng, naive, 4)
            told = soonest(history, promise, deeds)
            later = history
            for index, deed in enumerate(deeds):
                days = waits_for(later, promise, deed) if later.can(deed) else None
                if days is None:
                    self.assertIsNone(told)
                    self.assertEqual(stuck_at(history, promise, deeds), index)
                    break
                later = later.then(("wait", days)).then(deed) if days else later.then(deed)
                if told is not None:
                    self.assertEqual(told[index], days)

    def test_equal_states_have_equal_days(self):
        one = History(Land(["a", "b", "c"], 3), [("make", "a", 1), ("drop", "a", 0, 1), ("wait", 1), ("make", "b", 2)])
        other = History(Land(["a", "b", "c"], 3), [
            ("make", "a", 2), ("end", "a"), ("wait", 1), ("make", "b", 1), ("grow", "b", 1), ("drop", "b", 0, 1),
            ("drop", "b", 0, 1), ("wait", 9), ("make", "a", 1), ("end", "a"), ("wait", 1), ("make", "b", 2),
        ])
        self.assertEqual(state(one, 2), state(other, 2))
        deeds = [("move", "b", "a"), ("cut", "a", 1, "c"), ("make", "b", 1)]
        for policy in POLICIES:
            for width in (None, 1, 2):
                for size in range(4):
                    promise = (policy, width, 2)
                    self.same(soonest(one, promise, deeds[:size]), soonest(other, promise, deeds[:size]))

    def test_errors_in_their_order(self):
        make = ("make", "a", 1)
        for thing in junk():
            for call in (soonest, stuck_at):
                self.refused(BadPromise, thing, call, HISTORY, thing, "x")
                if isinstance(thing, (list, tuple)):
                    if thing:
                        self.refused(BadDeeds, 0, call, HISTORY, PROMISE, thing)
                else:
                    self.refused(BadDeeds, 0, call, HISTORY, PROMISE, thing)
                self.refused(BadDeeds, 1, call, HISTORY, PROMISE, [make, thing, thing])
        for thing in (("wait", 1), ("make", "d", 1), ("cut", "a", 0, "b"), ("move", "a", "a"), ("make", "a", 0)):
            for call in (soonest, stuck_at):
                self.refused(BadDeeds, 2, call, HISTORY, PROMISE, [make, SWAP, thing])
        self.assertEqual(stuck_at(HISTORY, PROMISE, [("make", "a", 10 ** 12)]), 0)


class Remedies(Asking):
    def test_example(self):
        self.same(remedies(HISTORY, "first", 2, SWAP), (None, 2, -1))
        self.same(remedies(history=HISTORY, policy="first", life=2, deed=["move", "a", "c"]), (0, 1, None))

    def test_it_holds(self):
        rng = random.Random(373)
        for naive, history in random_histories(373, 80, 7):
            for policy in POLICIES:
                for life in (None, 0, 1, 3):
                    deeds = deeds_now(history, [0, 1, 2])
                    for deed in rng.sample(deeds, min(3, len(deeds))) + [("wait", rng.randint(1, 3))]:
                        self.check(naive, history, policy, life, deed)

    def check(self, naive, history, policy, life, deed):
        days, width, greatest = remedies(history, policy, life, deed)
        later = history.then(deed)
        self.assertEqual(days, waits_for(history, (policy, None, life), deed))
        self.assertEqual(width, least_width(later, policy, life))
        self.assertEqual(greatest, greatest_life(later, policy, None))
        enough = greatest is None or (life is not None and greatest >= life)
        self.assertIs(days == 0, enough)
        if days is not None and days > 0:
            for n, right in ((days, True), (days - 1, False)):
                behind = greatest_life((history.then(("wait", n)) if n else history).then(deed), policy, None)
                self.assertIs(behind is None or behind >= life, right)
        if policy != "all":
            self.assertIs(width == 1, days == 0)
        behind = naive.then(deed)
        self.assertTrue(width is None or width <= len(naive.addresses))
        mixed = False
        for address in naive.addresses:
            gone = [not due for (a, _), due in behind.comers(policy, life, behind.now) if a == address]
            mixed = mixed or (any(gone) and not all(gone))
        self.assertIs(width is None, mixed)
        self.assertIs(keeps(later, (policy, None, life)), days == 0)

    def test_errors_in_their_order(self):
        for thing in junk():
            if thing != "all":
                self.refused(BadPolicy, thing, remedies, HISTORY, thing, "x", "x")
            self.refused(CannotBeDone, thing, remedies, HISTORY, "all", 1, thing)
        for thing in (-1, True, False, "1", [1], {}):
            self.refused(BadLife, thing, remedies, HISTORY, "all", thing, "x")


if __name__ == "__main__":
    unittest.main()
