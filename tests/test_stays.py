import itertools
import random
import unittest

from oldaddress.errors import BadIndex, BadLife
from oldaddress.histories import History
from oldaddress.lands import Land
from oldaddress.refusals import BadDay, BadMany, BadStays
from oldaddress.stays import (
    full_day,
    giving,
    is_giving,
    least_addresses,
    life_for,
    moved,
    needs_by_life,
    stays_of,
    with_life,
)
from tests.asking import Asking, example
from tests.naive import junk, random_histories

EXAMPLE = [(0, 0, 5), (1, 9, 5), (2, 2, 5), (3, 3, 5)]


def bound_days(stay):
    return range(stay[0], stay[1] + stay[2] + 1)


def random_stays(seed, count, most=6, last=9, life=5):
    """Lists of stays of a few days, some of one day, some that touch, some with equal begins."""
    rng = random.Random(seed)
    for _ in range(count):
        stays = []
        for _ in range(rng.randint(0, most)):
            begin = rng.randint(0, last)
            stays.append((begin, begin + rng.choice((0, 0, 1, 2, 4)), rng.randint(0, life)))
        yield stays


def bound_on(stays, day):
    return [index for index, stay in enumerate(stays) if day in bound_days(stay)]


def all_days(stays):
    return range(max([end + life for _, end, life in stays], default=0) + 1)


def is_one(stays, many, numbers):
    """Day by day: no address is bound by two."""
    for day in all_days(stays):
        there = [numbers[index] for index in bound_on(stays, day)]
        if len(set(there)) < len(there):
            return False
    return all(0 <= number < many for number in numbers)


def naive_giving(stays, many):
    numbers = {}
    for index in sorted(range(len(stays)), key=lambda index: stays[index][0]):
        day = stays[index][0]
        free = [n for n in range(many) if all(numbers[i] != n or day not in bound_days(stays[i]) for i in numbers)]
        if not free:
            return None
        numbers[index] = free[0]
    return [numbers[index] for index in range(len(stays))]


def naive_least(stays):
    return max([len(bound_on(stays, day)) for day in all_days(stays)], default=0)


class Givings(Asking):
    def test_example(self):
        self.same(least_addresses(EXAMPLE), 4)
        self.same(full_day(EXAMPLE, 3), 3)
        self.same(needs_by_life(EXAMPLE), [(0, 2), (1, 3), (3, 4)])

    def test_just_one(self):
        met = set()
        for stays in random_stays(1510, 150):
            self.same(least_addresses(stays), naive_least(stays))
            for many in range(6):
                told = giving(stays, many)
                self.same(told, naive_giving(stays, many))
                full = [day for day in all_days(stays) if len(bound_on(stays, day)) > many]
                self.same(full_day(stays, many), full[0] if full else None)
                self.assertEqual(told is None, bool(full))
                self.assertEqual(told is None, many < least_addresses(stays))
                met.add(told is None)
                if told is not None:
                    self.assertIs(is_giving(stays, many, told), True)
        self.assertEqual(met, {True, False})

    def test_no_giving_at_all_with_too_few(self):
        for stays in random_stays(1511, 60, most=4):
            for many in range(4):
                lists = list(itertools.product(range(many), repeat=len(stays)))
                good = [list(numbers) for numbers in lists if is_one(stays, many, numbers)]
                self.assertEqual(bool(good), giving(stays, many) is not None)
                for numbers in lists:
                    self.assertIs(is_giving(stays, many, numbers), list(numbers) in good)

    def test_any_object(self):
        stays = [(0, 0, 0), (0, 1, 0)]
        for thing in junk():
            self.assertIs(is_giving(stays, 2, thing), False)
            self.assertIs(is_giving(stays, 2, [0, thing]), type(thing) is int and thing == 1)
            self.assertIs(is_giving([], 0, thing), isinstance(thing, (list, tuple)) and len(thing) == 0)
        for thing, expected in (([0, 1], True), ((1, 0), True), ([0, 0], False), ([0, 2], False), ([False, True], False),
                                ([0, 1, 2], False), ([0], False), ({0: 1}, False), ("01", False), ([0, -1], False)):
            self.assertIs(is_giving(stays=stays, many=2, thing=thing), expected)
        self.assertIs(is_giving([(0, 0, 0), (1, 1, 0)], 1, [0, 0]), True)
        self.assertIs(is_giving([(0, 0, 1), (1, 1, 0)], 1, [0, 0]), False)

    def test_edges(self):
        self.same(giving([], 0), [])
        self.assertIsNone(giving([(0, 0, 0)], 0))
        self.assertIsNone(full_day([], 0))
        self.same(full_day([(5, 6, 0), (3, 3, 9)], 0), 3)
        self.same(least_addresses([]), 0)
        self.same(giving([(1, 2, 0), (0, 0, 0), (0, 0, 0)], 2), [0, 0, 1])
        self.same(giving([(3, 3, 0), (3, 3, 0), (2, 2, 1)], 10 ** 12), [1, 2, 0])
        self.same(giving([(0, 2, 0), (3, 4, 0), (5, 5, 0)], 1), [0, 0, 0])
        self.same(full_day([(0, 2, 1), (3, 4, 0)], 1), 3)

    def test_great_numbers(self):
        rng = random.Random(1512)
        stays = []
        for _ in range(60):
            begin = rng.randint(0, 10 ** 12)
            stays.append((begin, begin + rng.randint(0, 10 ** 11), rng.randint(0, 10 ** 12)))
        least = least_addresses(stays)
        self.assertIs(is_giving(stays, least, giving(stays, least)), True)
        self.assertIsNone(giving(stays, least - 1))
        day = full_day(stays, least - 1)
        self.assertEqual(sum(begin <= day <= end + life for begin, end, life in stays), least)
        pairs = needs_by_life(stays)
        self.assertEqual(pairs[-1][1], least)
        for (life, many), (later, more) in zip(pairs, pairs[1:]):
            self.assertEqual(least_addresses(with_life(stays, later - 1)), many)
            self.assertEqual(least_addresses(with_life(stays, later)), more)
            self.assertEqual(life_for(stays, many), later - 1)


class Changed(Asking):
    def test_moved(self):
        stays = [(0, 3, 2), (5, 5, 1), (2, 9, 0)]
        self.same(moved(stays, 0, 1), [(0, 0, 2), (1, 3, 2), (5, 5, 1), (2, 9, 0)])
        self.same(moved(stays=stays, index=0, day=3), [(0, 2, 2), (3, 3, 2), (5, 5, 1), (2, 9, 0)])
        self.same(moved([list(stay) for stay in stays], 2, 9), [(0, 3, 2), (5, 5, 1), (2, 8, 0), (9, 9, 0)])
        for lists in random_stays(1520, 100):
            for index, (begin, end, life) in enumerate(lists):
                for day in range(begin + 1, end + 1):
                    told = moved(lists, index, day)
                    expected = lists[:index] + [(begin, day - 1, life), (day, end, life)] + lists[index + 1:]
                    self.same(told, expected)
                    self.assertGreaterEqual(least_addresses(told), least_addresses(lists))

    def test_moved_refuses(self):
        stays = [(0, 3, 2), (5, 5, 1)]
        for thing in junk():
            if not (type(thing) is int and 0 <= thing < 2):
                self.refused(BadIndex, thing, moved, stays, thing, "x")
            if not (type(thing) is int and 0 < thing <= 3):
                self.refused(BadDay, thing, moved, stays, 0, thing)
            self.refused(BadDay, thing, moved, stays, 1, thing)
        for day in (0, 4, 10 ** 12):
            self.refused(BadDay, day, moved, stays, 0, day)
        self.refused(BadDay, 5, moved, stays, 1, 5)
        self.refused(BadIndex, 0, moved, [], 0, 1)

    def test_with_life(self):
        self.same(with_life(EXAMPLE, 3), [(0, 0, 3), (1, 9, 3), (2, 2, 3), (3, 3, 3)])
        self.same(with_life(stays=[[0, 1, 2], (1, 1, 7)], life=5), [(0, 1, 2), (1, 1, 5)])
        self.same(with_life(EXAMPLE, 10 ** 12), EXAMPLE)
        self.same(with_life([], 0), [])

    def test_needs_and_lives(self):
        more = 0
        for stays in random_stays(1521, 120):
            greatest = max([life for _, _, life in stays], default=0)
            needs = [naive_least([(b, e, min(told, life)) for b, e, told in stays]) for life in range(greatest + 4)]
            expected = [(life, many) for life, many in enumerate(needs) if life == 0 or many > needs[life - 1]]
            self.same(needs_by_life(stays), expected)
            more += len(expected) > 1
            for many in range(7):
                enough = [life for life in range(greatest + 1) if needs[life] <= many]
                self.same(life_for(stays, many), enough[-1] if enough else None)
        self.assertGreater(more, 30)
        self.same(needs_by_life([]), [(0, 0)])
        self.same(life_for([], 0), 0)
        self.same(life_for([(0, 0, 7)], 0), None)
        self.same(life_for([(0, 0, 7)], 1), 7)
        self.same(life_for(stays=EXAMPLE, many=3), 2)

    def test_a_holder_s_own_life_is_not_made_longer(self):
        stays = [(0, 0, 1), (5, 5, 9), (7, 7, 0)]
        self.same(needs_by_life(stays), [(0, 1), (2, 2)])
        self.same(life_for(stays, 1), 1)
        self.same(life_for(stays, 2), 9)


class OfAHistory(Asking):
    def naive_stays(self, naive, life):
        found = []
        for address in naive.addresses:
            begin = None
            for moment in range(naive.now + 1):
                if naive.rows[moment][address] and begin is None:
                    begin = naive.days[moment]
                last = naive.days[moment]
                if moment < naive.now and naive.deeds[moment][0] == "wait":
                    last += naive.deeds[moment][1] - 1
                if naive.rows[moment][address] and (moment == naive.now or not naive.rows[moment + 1][address]):
                    found.append((begin, last, life))
                    begin = None
        return found

    def test_stays(self):
        self.same(stays_of(example(), 4), [(0, 3, 4), (3, 3, 4), (0, 3, 4)])
        for naive, history in random_histories(1530, 80):
            for life in (0, 3):
                self.same(stays_of(history, life), self.naive_stays(naive, life))
        self.same(stays_of(history=History(Land(["a", "b"], 1), []), life=10 ** 12), [])

    def test_days_of_waits(self):
        history = History(Land(["a", "b"], 1), [("make", "a", 1), ("wait", 5), ("move", "a", "b"), ("wait", 10 ** 12)])
        self.same(stays_of(history, 0), [(0, 5, 0), (5, 5 + 10 ** 12, 0)])
        self.same(stays_of(history.ahead(3), 0), [(0, 5, 0), (5, 5, 0)])
        self.same(stays_of(history.ahead(2).then(("end", "a")), 1), [(0, 5, 1)])


class Errors(Asking):
    def test_stays(self):
        calls = ((is_giving, (-1, 0)), (giving, (-1,)), (full_day, (-1,)), (least_addresses, ()), (moved, (-1, -1)),
                 (with_life, (-1,)), (needs_by_life, ()), (life_for, (-1,)))
        for thing in junk():
            for call, rest in calls:
                if not isinstance(thing, (list, tuple)):
                    self.refused(BadStays, 0, call, thing, *rest)
                self.refused(BadStays, 2, call, [(0, 0, 0), (1, 2, 3), thing, None], *rest)
        for thing in ((1, 0, 5), (-1, 0, 0), (0, 0, -1), (0, 0, None), (0, 0), (0, 0, 0, 0), (True, 1, 1), (0, "1", 1)):
            for call, rest in calls:
                self.refused(BadStays, 1, call, ((0, 0, 0), thing), *rest)

    def test_numbers(self):
        for thing in junk():
            if not (type(thing) is int and thing >= 0):
                self.refused(BadMany, thing, is_giving, EXAMPLE, thing, None)
                self.refused(BadMany, thing, giving, EXAMPLE, thing)
                self.refused(BadMany, thing, full_day, EXAMPLE, thing)
                self.refused(BadMany, thing, life_for, EXAMPLE, thing)
                self.refused(BadLife, thing, with_life, EXAMPLE, thing)
                self.refused(BadLife, thing, stays_of, example(), thing)

    def test_arguments_stay(self):
        stays = [[0, 3, 1], [1, 1, 1]]
        giving(stays=stays, many=2).clear()
        full_day(many=1, stays=stays)
        moved(stays, 0, 2).clear()
        with_life(stays, 0).clear()
        needs_by_life(stays=stays).clear()
        self.same(stays, [[0, 3, 1], [1, 1, 1]])
        self.same(least_addresses(stays=tuple(stays)), 2)


if __name__ == "__main__":
    unittest.main()
