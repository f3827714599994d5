import itertools
import random
import unittest

from oldaddress.answers import dues_of
from oldaddress.errors import BadPromise, CannotBeDone, NoAddress
from oldaddress.histories import History
from oldaddress.lands import Land
from oldaddress.letters import cheapest, clash_with, holds_with, least_letters, letters_cost, what_may_stay
from oldaddress.promises import is_clash, keeps
from oldaddress.refusals import BadLetters, BadPostage, BadRent, BadStamp
from tests.asking import Asking, example, waiting
from tests.naive import Naive, all_histories, junk, promises, random_histories, stretches

PROMISE = ("all", None, None)


def left(naive, promise, letters):
    """The served holders, with their dues, to whom no letter is written that reaches them."""
    found = []
    for holder, due in naive.comers(promise[0], promise[2], naive.now):
        written = [(a, f, l) for a, f, l in letters if a == holder[0] and holder[1] in range(f, l + 1)]
        if not written or holder[1] == naive.now:
            found.append((holder, due))
    return found


def naive_cost(naive, letters, prices, stamp):
    cost = 0
    for address, first, last in letters:
        cost += stamp
        for moment in range(first, last + 1):
            if naive.rows[moment][address]:
                cost += prices[moment]
    return cost


def all_letters_of(naive, address):
    """All ways to write letters to an address that go over unlike moments; two that touch are never cheaper."""
    for chosen in itertools.product((False, True), repeat=naive.now + 1):
        moments = [moment for moment, is_chosen in enumerate(chosen) if is_chosen]
        yield [(address, first, last) for first, last in stretches(moments)]


def naive_least(naive, address, promise, prices, stamp, is_well):
    """The least cost of letters to an address behind which all is well with those who are left there."""
    best = None
    for letters in all_letters_of(naive, address):
        comers = [comer for comer in left(naive, promise, letters) if comer[0][0] == address]
        if is_well(comers):
            cost = naive_cost(naive, letters, prices, stamp)
            best = cost if best is None else min(best, cost)
    return best


def naive_whats(naive, address, promise):
    """All that may stay at an address, in order."""
    policy, width, life = promise
    comers = [comer for comer in naive.comers(policy, life, naive.now) if comer[0][0] == address]
    if not comers:
        return [()]
    own = bool(naive.rows[-1][address])
    if width is None:
        dues = []
        for holder, due in comers:
            if due not in dues:
                dues.append(due)
        return [due for due in dues if not own or due == (address,)]
    found = [] if own else [()]
    for many in range(len(naive.addresses) + 1):
        for chosen in itertools.combinations(naive.addresses, many):
            if many == min(width, len(naive.addresses)) and (not own or address in chosen):
                found.append(chosen)
    return found


def stays(width, what, due):
    if width is None or not what:
        return due == what
    return due != () and set(due) <= set(what)


def lists_of_letters(rng, naive, count):
    for _ in range(count):
        letters = []
        for _ in range(rng.randint(0, 4)):
            first = rng.randint(0, naive.now)
            letters.append((rng.choice(naive.addresses), first, rng.randint(first, naive.now)))
        yield letters


class Letters(Asking):
    def test_example(self):
        history = example()
        self.same(least_letters(history, PROMISE, [1] * 7, 5), (8, [("a", 1, 3)]))
        self.assertIs(holds_with(history, PROMISE, [("a", 1, 3)]), True)
        self.assertEqual(letters_cost(history, [("a", 1, 3)], [1] * 7, 5), 8)
        moved = History(history.land(), [("make", "a", 1), ("move", "a", "b")])
        self.same(cheapest(moved, ("make", "a", 1), ("all", None, 2), [1] * 3, 4, 1), (3, 3, []))
        self.same(cheapest(moved, ("make", "a", 1), ("all", None, 2), [1] * 3, 4, 2), (0, 5, [("a", 1, 1)]))

    def test_just_one_of_holding_and_a_clash(self):
        rng = random.Random(1420)
        met = set()
        for naive, history in random_histories(1421, 60):
            for promise in promises()[::3]:
                for letters in lists_of_letters(rng, naive, 4):
                    comers = left(naive, promise, letters)
                    holds = naive.table_for(promise[1], comers) is not None
                    self.assertIs(holds_with(history, promise, letters), holds)
                    told = clash_with(history, promise, letters)
                    met.add((holds, keeps(history, promise)))
                    if holds:
                        self.assertIsNone(told)
                        continue
                    self.assertIs(is_clash(history, promise, told), True)
                    holders = told if isinstance(told, tuple) else [holder for _, holder in told]
                    for holder in holders:
                        self.assertIn(holder, [comer[0] for comer in comers])
        self.assertEqual(met, {(True, True), (True, False), (False, False)})

    def test_now_is_never_reached(self):
        history = example()
        for letters in ([("a", 0, 6)], [("a", 1, 3), ("a", 6, 6)], [("a", 1, 1), ("a", 2, 6), ("a", 3, 5)]):
            self.assertIs(holds_with(history, PROMISE, letters), True)
        self.assertIs(holds_with(history, PROMISE, [("a", 6, 6)]), False)
        self.same(clash_with(history, PROMISE, [("a", 6, 6), ("a", 1, 2)]), (("a", 3), ("a", 6)))

    def test_who_learned_a_free_address_now_is_nobody(self):
        history = example().then(("end", "a"))
        self.assertIs(holds_with(history, PROMISE, [("a", 7, 7)]), False)
        self.assertIs(holds_with(history, PROMISE, [("a", 6, 7)]), True)
        self.same(what_may_stay(history, "a", PROMISE, [1] * 8, 3), [(("b",), 4), ((), 6)])
        self.same(what_may_stay(history, "a", ("all", 1, None), [1] * 8, 3),
                  [((), 6), (("a",), 7), (("b",), 4), (("c",), 7)])

    def test_costs(self):
        history = example()
        prices = [100, 1, 2, 4, 8, 16, 32]
        for letters, stamp, expected in (
            ([], 9, 0), ([("a", 0, 6)], 9, 9 + 1 + 2 + 4 + 32), ([("a", 4, 5)], 9, 9), ([("c", 0, 6)], 1, 1),
            ([("a", 1, 3), ("a", 2, 6)], 1, 2 + 7 + 6 + 32), ([("b", 2, 2)] * 3, 5, 21), ((["b", 0, 2],), 0, 2),
            ([("a", 6, 6)], 0, 32),
        ):
            self.same(letters_cost(history, letters, prices, stamp), expected)
        rng = random.Random(1422)
        for naive, history in random_histories(1423, 40):
            prices = [rng.choice((0, 1, 5)) for _ in range(naive.now + 1)]
            for letters in lists_of_letters(rng, naive, 5):
                for stamp in (0, 3):
                    self.same(letters_cost(history, letters, prices, stamp),
                              naive_cost(naive, letters, prices, stamp))

    def check_stay(self, naive, history, promise, prices, stamp):
        policy, width, life = promise
        least = 0
        for address in naive.addresses:
            expected = []
            for what in naive_whats(naive, address, promise):
                cost = naive_least(naive, address, promise, prices, stamp,
                                   lambda comers: all(stays(width, what, due) for _, due in comers))
                expected.append((what, cost))
            self.same(what_may_stay(history, address, promise, prices, stamp), expected)
            well = naive_least(naive, address, promise, prices, stamp,
                               lambda comers: naive.table_for(width, comers) is not None)
            self.assertEqual(well, min(cost for what, cost in expected))
            least += well
        cost, letters = least_letters(history, promise, prices, stamp)
        self.assertEqual(cost, least)
        self.assertEqual(naive_cost(naive, letters, prices, stamp), least)
        self.assertIs(naive.table_for(width, left(naive, promise, letters)) is not None, True)
        self.assertIs(type(letters), list)
        self.assertTrue(all(type(letter) is tuple for letter in letters))
        if naive.keeps(promise):
            self.assertEqual(cost, 0)

    def test_least_and_what_may_stay(self):
        rng = random.Random(1424)
        for naive, history in random_histories(1425, 60, 5):
            for promise in rng.sample(promises(), 5):
                prices = [rng.choice((0, 1, 2, 3)) for _ in range(naive.now + 1)]
                self.check_stay(naive, history, promise, prices, rng.choice((0, 1, 2, 4)))
        for naive, history in all_histories(["b", "a"], 1, 4):
            self.check_stay(naive, history, ("first", None, None), [1] * (naive.now + 1), 1)
            self.check_stay(naive, history, ("all", 1, 1), [2] * (naive.now + 1), 1)

    def test_two_letters_become_one(self):
        deeds = [("make", "a", 1), ("make", "b", 1), ("swap", "a", "b"), ("swap", "a", "b"), ("end", "a")]
        history = History(Land(["a", "b"], 2), deeds)
        prices = [1, 1, 1, 7, 1, 1]
        for stamp, expected in ((6, 15), (7, 17), (8, 18), (100, 110), (0, 3)):
            whats = dict(what_may_stay(history, "a", ("all", None, None), prices, stamp))
            self.assertEqual(whats[("b",)], min(2 * stamp + 3, stamp + 10))
            self.assertEqual(whats[()], stamp + 7)
            self.assertEqual(min(2 * stamp + 3, stamp + 10), expected)

    def test_widths(self):
        history = waiting()
        prices = [1] * 5
        self.same(what_may_stay(history, "a", ("all", 9, None), prices, 1), [(("a", "b", "c"), 0)])
        self.same(what_may_stay(history, "a", ("all", 3, None), prices, 1), [(("a", "b", "c"), 0)])
        self.same(what_may_stay(history, "a", ("all", 2, None), prices, 1), [(("a", "b"), 0), (("a", "c"), 3)])
        self.same(what_may_stay(history, "a", ("all", 1, None), prices, 1), [(("a",), 3)])
        self.same(what_may_stay(history, "c", ("all", 2, None), prices, 1), [((), 0)])
        self.same(what_may_stay(history, "c", ("most", None, 0), prices, 1), [((), 0)])
        gone = history.then(("end", "a")).then(("end", "b"))
        self.same(what_may_stay(gone, "a", ("all", 3, None), [1] * 7, 1), [((), 0), (("a", "b", "c"), 5)])
        self.same(what_may_stay(gone, "a", ("all", 10 ** 30, None), [1] * 7, 1), [((), 0), (("a", "b", "c"), 5)])

    def test_facts(self):
        """The least cost is 0 just where the promise holds, or what heals it costs nothing; width and life."""
        for naive, history in random_histories(1426, 40):
            prices = [1] * (naive.now + 1)
            for policy in ("all", "first"):
                costs = [least_letters(history, (policy, None, life), prices, 2)[0] for life in (0, 1, 2, 4, None)]
                self.assertEqual(costs, sorted(costs))
                wide = [least_letters(history, (policy, width, 3), prices, 2)[0] for width in (1, 2, 3, 4, 9)]
                self.assertEqual(wide, sorted(wide)[::-1])
                for life, cost in zip((0, 1, 2, 4, None), costs):
                    self.assertEqual(cost == 0, keeps(history, (policy, None, life)))
                whats = [min(cost for _, cost in what_may_stay(history, address, (policy, None, 2), prices, 2))
                         for address in naive.addresses]
                self.assertEqual(sum(whats), costs[2])
                for address in naive.addresses:
                    told = [what for what, cost in what_may_stay(history, address, (policy, None, 2), prices, 2)]
                    dues = [due for due, lots in dues_of(history, address, policy, 2)]
                    if naive.rows[-1][address]:
                        dues = [(address,)]
                    self.same(told, dues or [()])

    def test_letters_for_nothing(self):
        history = example()
        cost, letters = least_letters(history, PROMISE, [0] * 7, 0)
        self.assertEqual(cost, 0)
        self.assertIs(holds_with(history, PROMISE, letters), True)
        self.assertIs(keeps(history, PROMISE), False)


class LettersOrDays(Asking):
    def naive_cheapest(self, naive, deed, promise, prices, stamp, rent, most):
        best = None
        for days in range(most + 1):
            later = naive.waited(days).then(deed)
            longer = prices + [prices[-1]] * (later.now - naive.now)
            cost = rent * days
            for address in later.addresses:
                cost += naive_least(later, address, promise, longer, stamp,
                                    lambda comers: later.table_for(promise[1], comers) is not None)
            if best is None or cost < best[1]:
                best = (days, cost)
        return best

    def check(self, naive, history, deed, promise, prices, stamp, rent):
        days, cost, letters = cheapest(history, deed, promise, prices, stamp, rent)
        expected = self.naive_cheapest(naive, deed, promise, prices, stamp, rent, (promise[2] or 0) + 3)
        self.same((days, cost), expected)
        later = naive.waited(days).then(deed)
        longer = prices + [prices[-1]] * (later.now - naive.now)
        self.assertEqual(rent * days + naive_cost(later, letters, longer, stamp), cost)
        self.assertTrue(later.table_for(promise[1], left(later, promise, letters)) is not None)
        return days

    def test_against_day_by_day(self):
        rng = random.Random(1430)
        met = set()
        for naive, history in random_histories(1431, 70, 4):
            deeds = [deed for deed in naive.small_steps() if deed[0] != "wait"]
            if not deeds:
                continue
            for _ in range(3):
                promise = rng.choice(promises())
                prices = [rng.choice((0, 1, 2, 9)) for _ in range(naive.now + 1)]
                met.add(self.check(naive, history, rng.choice(deeds), promise, prices, rng.choice((0, 1, 4)),
                                   rng.choice((0, 1, 3))))
        self.assertLessEqual({0, 1, 2, 3}, met)

    def test_who_goes_out_of_life(self):
        history = History(Land(["a", "b", "c"], 9), [("make", "a", 1), ("wait", 3), ("move", "a", "b"), ("wait", 2)])
        naive = Naive(["a", "b", "c"], 9, history.deeds())
        for life in (0, 1, 2, 3, 5, 8, None):
            for rent in (0, 1, 2, 10 ** 9):
                self.check(naive, history, ("make", "a", 1), ("all", None, life), [3, 2, 1, 1, 1], 4, rent)

    def test_great_numbers(self):
        day = 10 ** 11
        history = History(Land(["a", "b"], 9), [("make", "a", 1), ("wait", day), ("move", "a", "b")])
        told = cheapest(history, ("make", "a", 1), ("all", None, 10 ** 12), [10 ** 9] * 4, 10 ** 9, 0)
        self.same(told, (10 ** 12 + 1, 0, []))
        days, cost, letters = cheapest(history, ("make", "a", 1), ("all", None, 10 ** 12), [10 ** 9] * 4, 10 ** 9, 1)
        self.same((days, cost), (0, 3 * 10 ** 9))
        self.assertIs(holds_with(history.then(("make", "a", 1)), ("all", None, 10 ** 12), letters), True)


class Errors(Asking):
    history = example()
    prices = [1] * 7

    def test_promises_and_addresses(self):
        for thing in junk():
            self.refused(BadPromise, thing, holds_with, self.history, thing, "x")
            self.refused(BadPromise, thing, clash_with, self.history, thing, "x")
            self.refused(BadPromise, thing, least_letters, self.history, thing, "x", -1)
            self.refused(BadPromise, thing, what_may_stay, self.history, "a", thing, "x", -1)
            self.refused(BadPromise, thing, cheapest, self.history, ("end", "a"), thing, "x", -1, -1)
            self.refused(CannotBeDone, thing, cheapest, self.history, thing, "x", "x", -1, -1)
            if thing != "a":
                self.refused(NoAddress, thing, what_may_stay, self.history, thing, "x", "x", -1)
        for deed in (("wait", 1), ["wait", 3], ("make", "a", 1), ("end", "c"), ("grow", "b", 10 ** 20)):
            self.refused(CannotBeDone, deed, cheapest, self.history, deed, "x", "x", -1, -1)

    def test_letters(self):
        good = ("a", 1, 3)
        for thing in junk():
            if not isinstance(thing, (list, tuple)):
                self.refused(BadLetters, 0, letters_cost, self.history, thing, "x", -1)
                self.refused(BadLetters, 0, holds_with, self.history, PROMISE, thing)
                self.refused(BadLetters, 0, clash_with, self.history, PROMISE, thing)
            self.refused(BadLetters, 1, letters_cost, self.history, [good, thing], "x", -1)
            self.refused(BadLetters, 2, holds_with, self.history, PROMISE, (good, good, thing, None))
        for thing in (("a", 3, 1), ("a", -1, 1), ("a", 0, 7), ("d", 0, 1), ("a", True, 1), ("a", 0, "1"), ("a", 1),
                      ("a", 0, 1, 2), (["a"], 0, 1), ("a", None, 1), ("a", 0, None)):
            self.refused(BadLetters, 0, clash_with, self.history, PROMISE, [thing, good])
        self.assertIs(holds_with(history=self.history, promise=PROMISE, letters=[["a", 0, 6]]), True)

    def calls(self, prices, stamp):
        yield letters_cost, (self.history, [], prices, stamp)
        yield what_may_stay, (self.history, "a", PROMISE, prices, stamp)
        yield least_letters, (self.history, PROMISE, prices, stamp)
        yield cheapest, (self.history, ("end", "a"), PROMISE, prices, stamp, -1)

    def test_postage(self):
        for thing in junk():
            if not isinstance(thing, (list, tuple)):
                for call, parts in self.calls(thing, -1):
                    self.refused(BadPostage, 0, call, *parts)
            if not (type(thing) is int and thing >= 0):
                for call, parts in self.calls([1, 2, thing] + [1] * 4, -1):
                    self.refused(BadPostage, 2, call, *parts)
        for prices, index in (([], 0), ([1] * 6, 6), ([1] * 8, 7), ([1] * 7 + ["x"], 7), ([1] * 9 + [-1], 7),
                              ([-1], 0), ([1, -1], 1), ((1,) * 3 + (True,), 3), ([1] * 30, 7)):
            for call, parts in self.calls(prices, -1):
                self.refused(BadPostage, index, call, *parts)

    def test_stamps_and_rents(self):
        for thing in junk():
            if not (type(thing) is int and thing >= 0):
                for call, parts in self.calls(self.prices, thing):
                    self.refused(BadStamp, thing, call, *parts)
                self.refused(BadRent, thing, cheapest, self.history, ("end", "a"), PROMISE, self.prices, 0, thing)

    def test_arguments_stay(self):
        prices, letters, deed = [1] * 7, [["a", 1, 3]], ["end", "a"]
        cheapest(history=self.history, deed=deed, promise=list(PROMISE), prices=prices, stamp=1, rent=1)
        letters_cost(stamp=1, prices=prices, letters=letters, history=self.history)
        what_may_stay(stamp=1, prices=tuple(prices), promise=PROMISE, address="a", history=self.history)
        least_letters(history=self.history, promise=PROMISE, prices=prices, stamp=1)[1].clear()
        self.same((prices, letters, deed), ([1] * 7, [["a", 1, 3]], ["end", "a"]))
        self.same(least_letters(self.history, PROMISE, prices, 5), (8, [("a", 1, 3)]))


if __name__ == "__main__":
    unittest.main()
