import itertools
import random
import unittest

from oldaddress.doing import is_let
from oldaddress.errors import BadLand, BadMost, BadPromise
from oldaddress.happened import (
    count_fits,
    first_fit,
    fits,
    odd_look,
    possible,
    sure_counts,
    sure_deeds,
)
from oldaddress.histories import History
from oldaddress.lands import Land
from oldaddress.promises import table
from oldaddress.refusals import BadLooks
from oldaddress.settled import own_deeds, possible_kinds
from oldaddress.statelots import all_states, parting, state_kinds
from oldaddress.states import state, table_by
from tests.asking import Asking
from tests.naive import Naive, all_deeds, junk, promises

TINY = Land(["a", "b"], 1)
PROMISE = ("first", None, 1)
LANDS = ((["a", "b"], 1, (0, 1, 2, None)), (["b", "a"], 2, (0, None)), (["c", "a", "b"], 1, (0, 1, None)))


def naive_ways(land, many):
    """All lists of so many deeds of those of [8.6], in their order."""
    level = [Naive(land.addresses(), land.most(), [])]
    for _ in range(many):
        level = [naive.then(deed) for naive in level for deed in naive.small_steps()]
    return level


def naive_fits(naive, promise, looks):
    if naive.now + 1 != len(looks):
        return False
    for moment, look in enumerate(looks):
        told = naive.table(promise, moment)
        if told is None:
            return False
        for address, answer in look.items():
            if (told.get(address) is None) != (answer is None) or (answer and tuple(answer) != told[address]):
                return False
            if answer is not None and tuple(answer) != told[address]:
                return False
    return True


def random_looks(rng, land, promise, many, odd=0.1):
    """Looks at some of the addresses of a history that keeps the promise, now and then at what is not so."""
    naive = Naive(land.addresses(), land.most(), [])
    looks = []
    for at in range(many):
        told = naive.table(promise, naive.now)
        look = {}
        for address in rng.sample(land.addresses(), rng.choice((0, 0, 1, 1, len(land.addresses())))):
            answer = told.get(address)
            if rng.random() < odd:
                answer = rng.choice((None, (), ["a"]))
            look[address] = list(answer) if answer is not None and rng.random() < 0.3 else answer
        looks.append(look)
        kept = [naive.then(deed) for deed in naive.small_steps() if naive.then(deed).keeps(promise)]
        naive = rng.choice(kept)
    return looks


def cases(seed, count, odd=0.1):
    rng = random.Random(seed)
    for _ in range(count):
        addresses, most, lives = rng.choice(LANDS)
        land = Land(addresses, most)
        promise = (rng.choice(("all", "first", "most")), rng.choice((None, None, 1, 2)), rng.choice(lives))
        many = rng.randint(1, 5 if most == 1 else 4)
        looks = random_looks(rng, land, promise, many, odd)
        fitting = [naive for naive in naive_ways(land, many - 1) if naive_fits(naive, promise, looks)]
        yield land, promise, looks, fitting


class Example(Asking):
    def test_example(self):
        looks = [{}, {"a": ("a",)}, {"a": ("b",)}]
        self.same(first_fit(TINY, PROMISE, looks).deeds(), [("make", "a", 1), ("move", "a", "b")])
        self.same(count_fits(TINY, PROMISE, looks), 1)
        self.same(sure_deeds(TINY, PROMISE, looks), [("make", "a", 1), ("move", "a", "b")])
        odd = [{}, {"a": ("a",)}, {"a": None}]
        self.same(odd_look(TINY, PROMISE, odd), 2)
        self.assertIsNone(first_fit(TINY, PROMISE, odd))
        free = [{}, {"a": ("a",)}, {"b": None}]
        self.same(count_fits(TINY, PROMISE, free), 3)
        self.assertEqual(len(possible(TINY, PROMISE, free)), 2)
        self.same(sure_counts(TINY, PROMISE, free), {"a": None, "b": 0})
        self.same(sure_deeds(TINY, PROMISE, free), [("make", "a", 1), None])


class Happened(Asking):
    def test_all_histories(self):
        met = set()
        for land, promise, looks, fitting in cases(2110, 120):
            self.same(count_fits(land, promise, looks), len(fitting))
            told = first_fit(land, promise, looks)
            odd = odd_look(land, promise, looks)
            self.assertEqual(told is None, odd is not None)
            met.add((odd is None, len(looks) > 2))
            deeds = sure_deeds(land, promise, looks)
            counts = sure_counts(land, promise, looks)
            if not fitting:
                self.assertEqual((told, deeds, counts), (None, None, None))
                self.same(possible(land, promise, looks), [])
                self.check_odd(land, promise, looks, odd)
                continue
            self.assertIs(type(told), History)
            self.assertTrue(told.land() == land)
            self.same(told.deeds(), fitting[0].deeds)
            self.assertIs(fits(told, promise, looks), True)
            states = {naive.state(promise[2]) for naive in fitting}
            self.same(possible(land, promise, looks), [one for one in all_states(land, promise[2]) if one in states])
            done = [{naive.deeds[at] for naive in fitting} for at in range(len(looks) - 1)]
            self.same(deeds, [one.pop() if len(one) == 1 else None for one in done])
            sizes = {a: {len(naive.rows[-1][a]) for naive in fitting} for a in land.addresses()}
            self.same(counts, {a: one.pop() if len(one) == 1 else None for a, one in sizes.items()})
        self.assertEqual(len(met), 4)

    def check_odd(self, land, promise, looks, odd):
        for at in range(len(looks)):
            some = any(naive_fits(naive, promise, looks[:at + 1]) for naive in naive_ways(land, at))
            self.assertEqual(some, at < odd)
            self.same(odd_look(land, promise, looks[:at + 1]), None if at < odd else odd)

    def test_fits(self):
        rng = random.Random(2111)
        met = set()
        for land, promise, looks, fitting in cases(2112, 40):
            ways = naive_ways(land, len(looks) - 1)
            for naive in fitting[:10] + rng.sample(ways, min(20, len(ways))):
                expected = naive_fits(naive, promise, looks)
                self.assertIs(fits(naive.told(), promise, tuple(looks)), expected)
                met.add(expected)
                self.assertIs(fits(naive.then(("wait", 1)).told(), promise, looks), False)
        self.assertEqual(met, {True, False})

    def test_other_deeds_than_small_ones_do_not_fit(self):
        history = History(TINY, [("wait", 2), ("make", "a", 1)])
        self.assertIs(fits(history, PROMISE, [{}, {}, {}]), False)
        self.assertIs(fits(History(TINY, [("wait", 1), ("make", "a", 1)]), PROMISE, [{}, {}, {}]), True)
        self.assertIs(fits(promise=PROMISE, looks=[{}], history=History(TINY, [])), True)
        self.assertIs(fits(History(TINY, []), PROMISE, [{}, {}]), False)
        self.assertIs(fits(History(TINY, []), PROMISE, [{"a": ()}]), False)
        self.assertIs(fits(History(TINY, []), PROMISE, [{"a": None, "b": None}]), True)

    def test_looks_at_nothing(self):
        """Then all that a promise lets fits, whatever is behind."""
        for addresses, most, lives in LANDS:
            land = Land(addresses, most)
            for promise in (("all", None, lives[-1]), ("first", 1, lives[0])):
                kept = [Naive(addresses, most, [])]
                for many in range(4):
                    self.same(count_fits(land, promise, [{}] * (many + 1)), len(kept))
                    kept = [naive.then(deed) for naive in kept for deed in naive.small_steps()
                            if naive.then(deed).keeps(promise)]

    def test_seven_looks(self):
        for addresses, most, lives in LANDS:
            land = Land(addresses, most)
            for promise in (("all", None, None), ("first", 1, lives[0]), ("most", 2, lives[-2])):
                looks = [{}] * 7
                many = count_fits(land=land, promise=promise, looks=looks)
                self.assertGreater(many, 500)
                self.assertIs(fits(first_fit(looks=looks, promise=promise, land=land), promise, looks), True)
                self.same(sure_deeds(land=land, promise=promise, looks=looks), [None] * 6)
                kinds = possible_kinds(land=land, promise=promise, looks=looks)
                found = possible(looks=looks, land=land, promise=promise)
                self.assertEqual(sorted(index for kind in kinds for index in kind), list(range(len(found))))
                own_deeds(land=land, promise=promise, looks=looks, most=3)

    def test_fact_all_answers_tell_which_addresses_are_free(self):
        for addresses, most, lives in LANDS:
            land = Land(addresses, most)
            for life in lives:
                for promise in (("all", None, life), ("first", 1, life), ("most", 2, life)):
                    free = {}
                    for one in all_states(land, life):
                        told = table_by(land, promise, one)
                        if told is not None:
                            for address, count in zip(addresses, one[0]):
                                self.assertEqual(address in told.get(address, ()), count > 0)
                            key = tuple(told.items())
                            self.assertEqual(free.setdefault(key, [c > 0 for c in one[0]]), [c > 0 for c in one[0]])

    def test_looks_are_read_and_stay(self):
        looks = [{}, {"b": None, "a": ["a"]}]
        self.same(count_fits(TINY, list(PROMISE), tuple(looks)), 1)
        sure_counts(TINY, PROMISE, looks).clear()
        possible(TINY, PROMISE, looks).clear()
        sure_deeds(TINY, PROMISE, looks).clear()
        self.same(looks, [{}, {"b": None, "a": ["a"]}])
        self.same(sure_counts(land=TINY, promise=PROMISE, looks=looks), {"a": 1, "b": 0})


class Settled(Asking):
    def test_kinds(self):
        met = set()
        for land, promise, looks, fitting in cases(2120, 80, 0):
            states = possible(land, promise, looks)
            everything = all_states(land, promise[2])
            kind_of = {index: number for number, kind in enumerate(state_kinds(land, promise)) for index in kind}
            expected = {}
            for index, one in enumerate(states):
                expected.setdefault(kind_of[everything.index(one)], []).append(index)
            told = possible_kinds(land, promise, looks)
            self.same(told, list(expected.values()))
            met.add(len(told))
            first = {one: naive for naive in fitting[::-1] for one in [naive.state(promise[2])]}
            for one, other in itertools.combinations(range(min(6, len(states))), 2):
                alike = any(one in kind and other in kind for kind in told)
                way = parting(first[states[one]].told(), first[states[other]].told(), promise)
                self.assertEqual(way is None, alike)
        self.assertLessEqual({1, 2, 3}, met)

    def test_nothing_fits(self):
        looks = [{"a": ()}]
        self.same(possible_kinds(TINY, PROMISE, looks), [])
        self.assertIsNone(own_deeds(TINY, PROMISE, looks, 3))
        self.same(odd_look(TINY, PROMISE, looks), 0)

    def naive_own(self, land, promise, fitting, most):
        """All lists of deeds in order, what was answered on the way being told with each possible history."""
        firsts = {}
        for naive in fitting:
            firsts.setdefault(naive.state(promise[2]), naive)
        start = [(naive, (self.answers(naive, promise),)) for naive in firsts.values()]
        level = [([], start)] if start else []
        deeds = all_deeds(land.addresses(), range(land.most() + 1)) + [("wait", 1)]
        for _ in range(most + 1):
            longer = []
            for way, told in level:
                if self.is_settled(told, promise):
                    return way
                for deed in deeds:
                    if all(naive.can(deed) and naive.then(deed).keeps(promise) for naive, _ in told):
                        later = [(naive.then(deed), seen) for naive, seen in told]
                        later = [(naive, seen + (self.answers(naive, promise),)) for naive, seen in later]
                        longer.append((way + [deed], later))
            level = longer
        return None

    def answers(self, naive, promise):
        return tuple(naive.table(promise, naive.now).items())

    def is_settled(self, told, promise):
        for (one, seen), (other, also) in itertools.combinations(told, 2):
            if seen == also and parting(one.told(), other.told(), promise) is not None:
                return False
        return True

    def test_own_deeds(self):
        met = set()
        for land, promise, looks, fitting in cases(2121, 60, 0.03):
            if len({naive.state(promise[2]) for naive in fitting}) > 25:
                continue
            most = 2 if land.most() == 1 else 1
            expected = self.naive_own(land, promise, fitting, most)
            told = own_deeds(land, promise, looks, most)
            self.same(told, expected)
            met.add(None if told is None else len(told))
            if told:
                self.assertIsNone(own_deeds(land, promise, looks, len(told) - 1))
                for naive in fitting:
                    history = naive.told()
                    for deed in told:
                        self.assertIs(is_let(history, promise, deed), True)
                        history = history.then(deed)
        self.assertLessEqual({None, 0, 1}, met)

    def test_looking_now_and_one_deed(self):
        looks = [{}, {"a": ("a",)}, {"b": None}]
        self.same(possible_kinds(TINY, PROMISE, looks), [[0], [1]])
        self.same(own_deeds(TINY, PROMISE, looks, 0), [])
        looks = [{}, {"a": ("a",)}, {"a": ("a",)}, {}]
        for most in range(3):
            told = own_deeds(most=most, looks=looks, promise=PROMISE, land=TINY)
            fitting = [naive for naive in naive_ways(TINY, 3) if naive_fits(naive, PROMISE, looks)]
            self.same(told, self.naive_own(TINY, PROMISE, fitting, most))

    def test_never_known_is_never_told_apart(self):
        """Two possible states of one kind give the same answers, whatever is done in both."""
        for land, promise, looks, fitting in cases(2122, 25, 0):
            kinds = possible_kinds(land, promise, looks)
            states = possible(land, promise, looks)
            first = {naive.state(promise[2]): naive for naive in fitting}
            for kind in kinds:
                level = [[first[states[index]].told() for index in kind[:3]]]
                for _ in range(2):
                    for told in level:
                        tables = [table(history, promise) for history in told]
                        self.assertTrue(all(one == tables[0] for one in tables))
                    level = [[history.then(deed) for history in told] for told in level
                             for deed in all_deeds(land.addresses(), [0, 1]) + [("wait", 1)]
                             if all(history.can(deed) for history in told)]


class Errors(Asking):
    calls = (first_fit, odd_look, count_fits, possible, sure_deeds, sure_counts, possible_kinds)

    def test_lands_and_promises(self):
        history = History(TINY, [])
        for thing in junk():
            self.refused(BadPromise, thing, fits, history, thing, "x")
            for call in self.calls:
                if not isinstance(thing, Land):
                    self.refused(BadLand, thing, call, thing, "x", "x")
                self.refused(BadPromise, thing, call, TINY, thing, "x")
            if not isinstance(thing, Land):
                self.refused(BadLand, thing, own_deeds, thing, "x", "x", -1)
            self.refused(BadPromise, thing, own_deeds, TINY, thing, "x", -1)
            if not (type(thing) is int and thing >= 0):
                self.refused(BadMost, thing, own_deeds, TINY, PROMISE, [{}], thing)
                self.refused(BadMost, thing, own_deeds, TINY, PROMISE, [{"a": ()}], thing)

    def test_looks(self):
        history = History(TINY, [])
        for thing in junk():
            is_list = isinstance(thing, (list, tuple))
            for call in self.calls:
                if not is_list or not thing:
                    self.refused(BadLooks, 0, call, TINY, PROMISE, thing)
                if thing != {} and thing != {"a": ("a",)}:
                    self.refused(BadLooks, 1, call, TINY, PROMISE, [{}, thing, 1])
            if not is_list or not thing:
                self.refused(BadLooks, 0, fits, history, PROMISE, thing)
                self.refused(BadLooks, 0, own_deeds, TINY, PROMISE, thing, -1)
        for look in ({"a": "a"}, {"a": ("b", "a")}, {"a": ["a", "a"]}, {"a": ("c",)}, {"c": None}, {"a": 1}, {1: None},
                     {"a": {}}, {"a": True}, {"a": (None,)}, {"a": (["a"],)}, {("a",): None}):
            for call in self.calls:
                self.refused(BadLooks, 2, call, TINY, PROMISE, ({}, {"a": None}, look))
            self.refused(BadLooks, 0, fits, history, PROMISE, [look])
        for promise in promises()[:3]:
            self.assertIsNone(odd_look(TINY, promise, [{"a": None}, {"a": ["a"], "b": None}]))


if __name__ == "__main__":
    unittest.main()
