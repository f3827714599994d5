import itertools
import random
import unittest

from oldaddress.errors import BadLand, BadLife, BadPromise, UnlikeLands
from oldaddress.histories import History
from oldaddress.lands import Land
from oldaddress.statelots import all_states, alike_lot, is_alike_lot, parting, state_kinds
from oldaddress.states import is_state, next_state, state
from tests.asking import Asking
from tests.naive import Naive, junk, met_states, random_deeds, ways_of

ONE = Land(["a", "b"], 1)
TWO = Land(["b", "a"], 2)


def counts(naive):
    return [len(row) for row in naive.rows[-1].values()]


def look(naive, promise):
    """What makes states unlike for a promise."""
    return (counts(naive), naive.table(promise, naive.now))


def naive_parting(one, other, promise, most):
    """The first shortest deeds of at most so many behind which two are unlike, looked for among all."""
    level = [([], one, other)]
    for _ in range(most + 1):
        longer = []
        for way, first, second in level:
            if look(first, promise) != look(second, promise):
                return way
            for deed in first.small_steps():
                longer.append((way + [deed], first.then(deed), second.then(deed)))
        level = longer
    return None


def random_pairs(rng, addresses, most, count):
    """Pairs of naive histories that often are not told apart at once."""
    lots = {}
    for _ in range(count):
        naive = Naive(addresses, most, random_deeds(rng, addresses, most, rng.randint(0, 6), 2))
        lots.setdefault(tuple(len(row) for row in naive.rows[-1].values()), []).append(naive)
    for lot in lots.values():
        for one, other in zip(lot, lot[1:]):
            yield one, other


class AllStates(Asking):
    def test_example(self):
        self.assertEqual(len(all_states(ONE, 1)), 53)
        self.assertEqual(len(all_states(land=TWO, life=0)), 528)

    def test_in_the_order_in_which_one_comes_to_them(self):
        for addresses, most, life in (
            (["b", "a"], 1, 0), (["b", "a"], 1, 1), (["a", "b"], 1, 2), (["a", "b"], 1, None), (["c", "a", "b"], 1, 0),
            (["c", "a", "b"], 1, None), (["b", "a"], 2, 0), (["b", "a"], 2, None),
        ):
            self.same(all_states(Land(addresses, most), life), list(met_states(addresses, most, life)))

    def test_all_ways_without_looking_back(self):
        for addresses, most, life in ((["b", "a"], 1, 1), (["c", "a", "b"], 1, 2), (["b", "a"], 2, 1)):
            told = all_states(Land(addresses, most), life)
            expected = []
            start = Naive(addresses, most, [])
            met = {}
            for _, naive in ways_of(start, lambda naive: naive.small_steps(), 3):
                met.setdefault(naive.state(life), None)
            expected = list(met)
            self.same(told[:len(expected)], expected)

    def test_none_is_left_and_none_comes_twice(self):
        for land, life in ((Land(["a", "b", "c"], 1), 1), (Land(["a", "b"], 2), 1), (Land(["a", "b", "c"], 1), 2)):
            told = all_states(land, life)
            self.assertEqual(len(set(told)), len(told))
            rng = random.Random(351)
            for one in rng.sample(told, 60):
                self.assertIs(is_state(land, life, one), True)
                self.assertIn(next_state(land, life, one, ("wait", 1)), told)

    def test_errors_in_their_order(self):
        for thing in junk():
            if not isinstance(thing, Land):
                self.refused(BadLand, thing, all_states, thing, "x")
                self.refused(BadLand, thing, state_kinds, thing, "x")
            self.refused(BadPromise, thing, state_kinds, ONE, thing)
        for thing in (-1, True, False, "1", [1], {}):
            self.refused(BadLife, thing, all_states, ONE, thing)


class Parted(Asking):
    def check(self, one, other, promise, most):
        first, second = one.told(), other.told()
        way = parting(first, second, promise)
        lot = alike_lot(first, second, promise)
        self.assertNotEqual(way is None, lot is None)
        expected = naive_parting(one, other, promise, most)
        if expected is not None or (way is not None and len(way) <= most):
            self.same(way, expected)
        if lot is not None:
            self.assertIs(is_alike_lot(first, second, promise, lot), True)
            self.check_order(one, other, promise, lot)
        return way

    def check_order(self, one, other, promise, lot):
        life = promise[2]
        expected = [(one.state(life), other.state(life))]
        queue = [(one, other)]
        for first, second in queue:
            for deed in first.small_steps():
                pair = (first.then(deed).state(life), second.then(deed).state(life))
                if pair not in expected:
                    expected.append(pair)
                    queue.append((first.then(deed), second.then(deed)))
        self.same(lot, expected)

    def test_small_ones(self):
        rng = random.Random(352)
        lengths = []
        for addresses, most, life in ((["b", "a"], 1, 1), (["a", "b"], 1, None), (["a", "b"], 1, 2)):
            met = list(met_states(addresses, most, life).values())
            pairs = [pair for pair in itertools.product(met, repeat=2) if counts(pair[0]) == counts(pair[1])]
            for one, other in rng.sample(pairs, 35):
                promise = (rng.choice(("all", "first", "most")), rng.choice((None, 1)), life)
                way = self.check(one, other, promise, 3)
                lengths.append(None if way is None else len(way))
        for length in (None, 0, 1, 2):
            self.assertIn(length, lengths)

    def test_of_three_addresses_and_of_two_pieces(self):
        rng = random.Random(353)
        lengths = []
        for addresses, most, life in ((["b", "a"], 2, 0), (["a", "b"], 2, None), (["c", "a", "b"], 1, 1)):
            for one, other in random_pairs(rng, addresses, most, 14):
                promise = (rng.choice(("all", "first", "most")), rng.choice((None, 1, 2)), life)
                first, second = one.told(), other.told()
                way = parting(first, second, promise)
                self.assertNotEqual(way is None, alike_lot(first, second, promise) is None)
                expected = naive_parting(one, other, promise, 1)
                if expected is not None or (way is not None and len(way) < 2):
                    self.same(way, expected)
                lengths.append(None if way is None else len(way))
        for length in (None, 0, 1):
            self.assertIn(length, lengths)

    def test_at_once(self):
        one, other = History(ONE, [("make", "a", 1)]), History(ONE, [("make", "b", 1)])
        self.same(parting(one=one, other=other, promise=["all", None, 1]), [])
        self.assertIsNone(alike_lot(one=one, other=other, promise=["all", None, 1]))
        self.same(parting(one, one, ("all", None, 1)), None)

    def test_unlike_deeds_equal_states(self):
        one = History(ONE, [("make", "a", 1), ("drop", "a", 0, 1)])
        other = History(ONE, [("make", "a", 1), ("end", "a")])
        self.assertIsNone(parting(one, other, ("first", None, None)))
        lot = alike_lot(one, other, ("first", None, None))
        self.assertTrue(all(first == second for first, second in lot))

    def test_errors_in_their_order(self):
        one, other = History(ONE, []), History(TWO, [])
        for thing in junk():
            self.refused(BadPromise, thing, parting, one, one, thing)
            self.refused(BadPromise, thing, alike_lot, one, one, thing)
            self.refused(BadPromise, thing, is_alike_lot, one, one, thing, [])
        self.refused(UnlikeLands, None, parting, one, other, "x")
        self.refused(UnlikeLands, None, alike_lot, one, other, "x")
        self.refused(UnlikeLands, None, is_alike_lot, one, other, "x", "x")
        self.refused(UnlikeLands, None, parting, History(Land(["b", "a"], 1), []), one, "x")


class Lots(Asking):
    promise = ("first", None, 1)

    def pair_of_alike_ones(self):
        """Two histories with unlike states that no deeds part."""
        kinds = [lot for lot in state_kinds(ONE, self.promise) if len(lot) > 1]
        met = list(met_states(["a", "b"], 1, 1).values())
        one, other = [met[index].told() for index in kinds[0][:2]]
        self.assertNotEqual(state(one, 1), state(other, 1))
        return one, other

    def test_what_is_none(self):
        one, other = self.pair_of_alike_ones()
        lot = alike_lot(one, other, self.promise)
        self.assertGreater(len(lot), 3)
        self.assertIs(is_alike_lot(one=one, other=other, promise=self.promise, thing=lot[::-1]), True)
        self.assertIs(is_alike_lot(one, other, self.promise, tuple(map(list, lot))), True)
        for index in range(len(lot)):
            self.assertIs(is_alike_lot(one, other, self.promise, lot[:index] + lot[index + 1:]), False)
            self.assertIs(is_alike_lot(one, other, self.promise, lot + [lot[index]]), False)
        turned = [(second, first) for first, second in lot]
        self.assertIs(is_alike_lot(other, one, self.promise, turned), True)
        self.assertIs(is_alike_lot(one, other, self.promise, turned), False)
        self.assertIs(is_alike_lot(one, other, self.promise, lot + [pair for pair in turned if pair not in lot]), True)

    def test_more_pairs(self):
        one, other = self.pair_of_alike_ones()
        lot = alike_lot(one, other, self.promise)
        told = all_states(ONE, 1)
        alike = [(first, first) for first in told]
        more = lot + [pair for pair in alike if pair not in lot]
        self.assertIs(is_alike_lot(one, other, self.promise, more), True)
        for pair in itertools.islice(itertools.product(told, repeat=2), 0, None, 7):
            if pair not in more:
                kinds = state_kinds(ONE, self.promise)
                are_alike = any(told.index(pair[0]) in kind and told.index(pair[1]) in kind for kind in kinds)
                if not are_alike:
                    self.assertIs(is_alike_lot(one, other, self.promise, more + [pair]), False)

    def test_unlike_ones_have_none(self):
        one, other = History(ONE, [("make", "a", 1)]), History(ONE, [("make", "b", 1)])
        every = list(itertools.product(all_states(ONE, 1), repeat=2))
        self.assertIs(is_alike_lot(one, other, self.promise, every), False)
        self.assertIs(is_alike_lot(one, other, self.promise, [(first, first) for first, _ in every[::53]]), False)

    def test_any_object(self):
        one, other = self.pair_of_alike_ones()
        lot = alike_lot(one, other, self.promise)
        for thing in junk():
            self.assertIs(is_alike_lot(one, other, self.promise, thing), False)
            self.assertIs(is_alike_lot(one, other, self.promise, lot + [thing]), False)
            self.assertIs(is_alike_lot(one, other, self.promise, lot[1:] + [(lot[0][0], thing)]), False)
            self.assertIs(is_alike_lot(one, other, self.promise, lot[1:] + [(lot[0][0], lot[0][1], thing)]), False)


class Kinds(Asking):
    def test_kinds_are_what_no_deeds_part(self):
        for addresses, most, promise in (
            (["a", "b"], 1, ("first", None, 1)), (["a", "b"], 1, ("all", 2, 0)), (["b", "a"], 1, ("most", 1, None)),
        ):
            land = Land(addresses, most)
            met = [naive.told() for naive in met_states(addresses, most, promise[2]).values()]
            kinds = state_kinds(land=land, promise=list(promise))
            self.assertEqual(sorted(index for lot in kinds for index in lot), list(range(len(met))))
            self.assertEqual([lot[0] for lot in kinds], sorted(lot[0] for lot in kinds))
            self.assertTrue(all(lot == sorted(lot) for lot in kinds))
            kind = {index: number for number, lot in enumerate(kinds) for index in lot}
            for one, other in itertools.combinations(range(len(met)), 2):
                way = parting(met[one], met[other], promise)
                self.assertIs(way is None, kind[one] == kind[other])
                if way is not None:
                    self.assertLess(len(way), len(kinds))

    def test_kinds_of_greater_ones(self):
        rng = random.Random(354)
        for addresses, most, promise in (
            (["a", "b"], 2, ("first", None, 0)), (["a", "b"], 2, ("all", 2, None)), (["c", "b", "a"], 1, ("all", 1, 1)),
        ):
            met = [naive.told() for naive in met_states(addresses, most, promise[2]).values()]
            kinds = state_kinds(Land(addresses, most), promise)
            self.assertEqual(sorted(index for lot in kinds for index in lot), list(range(len(met))))
            for lot in rng.sample(kinds, 8):
                for index in lot[1:3]:
                    self.assertIsNone(parting(met[lot[0]], met[index], promise))
                other = rng.choice([kind for kind in kinds if kind is not lot])
                self.assertIsNotNone(parting(met[lot[0]], met[other[0]], promise))


if __name__ == "__main__":
    unittest.main()
