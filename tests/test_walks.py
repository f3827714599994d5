import random
import unittest

from oldaddress.errors import BadHolder, BadLife, NoAddress
from oldaddress.forwards import follow
from oldaddress.histories import History
from oldaddress.holders import holders
from oldaddress.lands import Land
from oldaddress.lazybooks import how_led, lazy_book
from oldaddress.refusals import BadDay, BadPace
from oldaddress.walks import evening, first_lost, lost_days, walk
from tests.asking import Asking
from tests.books import naive_lazy_book
from tests.naive import Naive, junk, random_deeds, random_histories, stretches

LAND = Land(["a", "b", "c"], 5)
DEEDS = [("make", "a", 1), ("move", "a", "b"), ("wait", 2), ("move", "b", "c"), ("wait", 1), ("make", "b", 1)]


def swapping(seed, count):
    """Histories in which things go to and fro, so that days on which one is lost alternate with others."""
    rng = random.Random(seed)
    for _ in range(count):
        deeds = [("make", "a", 1), ("make", "b", 1)]
        for _ in range(rng.randint(2, 10)):
            deeds.append(rng.choice([("swap", "a", "b"), ("wait", 1), ("wait", 2)]))
        naive = Naive(["b", "a"], 2, deeds)
        yield naive, naive.told()


def short():
    """The history of [13.6]."""
    return History(LAND, DEEDS + [("wait", 9)])


def naive_evening(naive, day):
    return max(m for m in range(naive.now + 1) if naive.days[m] <= day)


def naive_walk(naive, address, day, pace):
    stands = [(day, address)]
    while True:
        entry = naive_lazy_book(naive, naive_evening(naive, day)).get(address, ())
        if not entry:
            return stands
        day, address = day + pace, entry[0]
        stands.append((day, address))


def is_lost(naive, holder, day, pace):
    last, end = naive_walk(naive, holder[0], day, pace)[-1]
    moment = naive_evening(naive, last)
    meant = naive.meant(holder)
    if any(piece in naive.rows[moment][end] for piece in meant):
        return False
    lives = any(naive.where(piece, moment) is not None for piece in meant)
    return lives or naive_lazy_book(naive, moment).get(end) != ()


def last_day(naive, moment):
    if moment < naive.now and naive.deeds[moment][0] == "wait":
        return naive.days[moment] + naive.deeds[moment][1] - 1
    return naive.days[moment]


def naive_lost(naive, holder, pace, life):
    """Day by day; behind the day of the last deed all days are as that one."""
    begin = last_day(naive, holder[1])
    end = max(begin, naive.days[-1]) if life is None else begin + life
    lost = [day for day in range(begin, end + 1) if is_lost(naive, holder, day, pace)]
    found = stretches(lost)
    if life is None and lost and lost[-1] == end:
        found[-1] = (found[-1][0], None)
    return found


def moving_histories(seed, count, most_deeds=10, waits=3):
    """Histories in which much moves, so that walks are long and stand somewhere when the book changes."""
    rng = random.Random(seed)
    for _ in range(count):
        addresses = ["c", "a", "b", "d"][:rng.choice((2, 3, 4))]
        naive = Naive(addresses, 3, [])
        for _ in range(rng.randint(3, most_deeds)):
            sorts = {}
            for deed in naive.small_steps():
                sorts.setdefault(deed[0], []).append(deed)
            sorts["wait"] = [("wait", rng.randint(1, waits))]
            words = [w for w in ("make", "move", "move", "wait", "wait", "split", "pour", "end", "swap") if w in sorts]
            naive = naive.then(rng.choice(sorts[rng.choice(words)]))
        yield naive, naive.told()


class Walks(Asking):
    def test_example(self):
        history = short()
        self.same(walk(history, "a", 0, 1), [(0, "a"), (1, "b")])
        self.same(walk(history, "a", 2, 1), [(2, "a"), (3, "b")])
        self.same(lost_days(history, ("a", 1), 1, 3), [(2, 3)])
        self.same(lost_days(history, ("a", 1), 3, 3), [(0, 3)])
        self.same(first_lost(history, 3, 3), (("a", 1), 0))
        self.same(first_lost(history, 1, 3), (("a", 1), 2))

    def test_evenings(self):
        history = short()
        self.same([evening(history, day) for day in (0, 1, 2, 3, 4, 11, 12, 13, 10 ** 12)],
                  [2, 2, 4, 6, 6, 6, 7, 7, 7])
        self.same(evening(history=History(LAND, []), day=10 ** 12), 0)
        for naive, history in random_histories(1310, 40):
            for day in range(naive.days[-1] + 3):
                self.same(evening(history, day), naive_evening(naive, day))

    def test_walks_end_at_once_and_at_gone_things(self):
        history = History(LAND, [("make", "a", 1), ("wait", 1), ("move", "a", "b"), ("end", "b"), ("make", "c", 1)])
        self.same(walk(history, "a", 0, 5), [(0, "a")])
        self.same(walk(history, "c", 7, 5), [(7, "c")])
        self.same(walk(history=history, address="a", day=1, pace=10 ** 12), [(1, "a"), (1 + 10 ** 12, "b")])
        self.same(lost_days(history, ("a", 1), 10 ** 12, None), [])
        self.assertIsNone(first_lost(history, 10 ** 12, None))

    def test_first_address_of_an_entry_in_the_land_s_order(self):
        history = History(Land(["c", "b", "a"], 4), [("make", "a", 2), ("split", "a", 1, "b", "c")])
        self.same(walk(history, "a", 0, 1), [(0, "a"), (1, "c")])

    def test_walks(self):
        lengths = set()
        for histories in (random_histories(1311, 25), moving_histories(1312, 40)):
            for naive, history in histories:
                for address in naive.addresses:
                    for day in range(naive.days[-1] + 2):
                        for pace in (1, 2, 5):
                            told = walk(history, address, day, pace)
                            self.same(told, naive_walk(naive, address, day, pace))
                            lengths.add(len(told))
        self.assertLessEqual({1, 2, 3, 4}, lengths)

    def test_lost(self):
        ends, nobody = set(), 0
        for histories in (random_histories(1313, 25), moving_histories(1314, 60), swapping(1320, 20)):
            for naive, history in histories:
                for life in (None, 0, 1, 4):
                    for pace in (1, 2, 7):
                        firsts = []
                        for holder in naive.holders(None, naive.now):
                            expected = naive_lost(naive, holder, pace, life)
                            self.same(lost_days(history, holder, pace, life), expected)
                            if expected:
                                firsts.append((holder, expected[0][0]))
                                ends.add((len(expected) > 1, expected[-1][1] is None))
                        self.same(first_lost(history, pace, life), firsts[0] if firsts else None)
                        nobody += not firsts
        self.assertEqual(ends, {(False, False), (False, True), (True, False), (True, True)})
        self.assertGreater(nobody, 20)

    def test_great_numbers(self):
        """Days by their thousand millions: the walks about each border of a stretch are looked at one by one."""
        rng = random.Random(1315)
        for _, small in moving_histories(1316, 30):
            days = [deed if deed[0] != "wait" else ("wait", deed[1] * 10 ** 11 + rng.randint(0, 2))
                    for deed in small.deeds()]
            history = History(small.land(), days)
            naive = Naive(small.land().addresses(), 3, days)
            for holder in holders(history, None):
                for pace in (1, 10 ** 11, 10 ** 12):
                    self.check_great(naive, history, holder, pace, rng.choice((None, 10 ** 12, 0)))

    def check_great(self, naive, history, holder, pace, life):
        told = lost_days(history, holder, pace, life)
        begin = history.last_day(holder[1])
        days = {begin, begin + (life or 0), begin + 5 * 10 ** 11}
        for first, last in told:
            days |= {first - 1, first} | ({last, last + 1} if last is not None else {first + 10 ** 13})
        for day in days:
            if day >= begin and (life is None or day <= begin + life):
                inside = any(first <= day and (last is None or day <= last) for first, last in told)
                self.assertEqual(is_lost(naive, holder, day, pace), inside)
        for one, other in zip(told, told[1:]):
            self.assertLess(one[1] + 1, other[0])

    def test_long_histories_in_a_reasonable_time(self):
        rng = random.Random(1317)
        names = ["a", "b", "c", "d", "e", "f"]
        for _ in range(4):
            history = History(Land(names, 6), random_deeds(rng, names, 6, 16, waits=10 ** 12))
            for pace in (1, 10 ** 6, 10 ** 12):
                first_lost(history, pace, None)
                for holder in holders(history, None):
                    lost_days(history, holder, pace, 10 ** 12)

    def test_fact_without_splits_and_cuts(self):
        for histories in (random_histories(1318, 60), moving_histories(1319, 60)):
            for naive, history in histories:
                if {"cut", "split"} & {deed[0] for deed in naive.deeds}:
                    continue
                day = naive.days[-1]
                for holder in naive.holders(None, naive.now):
                    led = follow(history.land(), lazy_book(history), holder[0])
                    end = walk(history, holder[0], day, 3)[-1][1]
                    self.assertEqual(led or (end,), (end,))
                    self.assertLessEqual(len(naive.due(holder, "all", naive.now)), 1)
                    lost = is_lost(naive, holder, day, 3)
                    self.assertEqual(lost, how_led(history, holder) != "right")
                    told = lost_days(history, holder, 3, None)
                    self.assertEqual(lost, bool(told) and told[-1][1] is None)

    def test_split_parts_that_are_gone(self):
        history = History(LAND, [("make", "a", 2), ("split", "a", 1, "b", "c"), ("end", "b")])
        self.same(walk(history, "a", 0, 1), [(0, "a"), (1, "b")])
        self.same(lost_days(history, ("a", 1), 1, None), [(0, None)])
        self.same(first_lost(history, 1, 0), (("a", 1), 0))

    def test_errors_in_their_order(self):
        history = short()
        for thing in junk():
            if thing not in ("a",):
                self.refused(NoAddress, thing, walk, history, thing, -1, 0)
            if not (type(thing) is int and thing >= 0):
                self.refused(BadDay, thing, evening, history, thing)
                self.refused(BadDay, thing, walk, history, "a", thing, 0)
            if not (type(thing) is int and thing >= 1):
                self.refused(BadPace, thing, walk, history, "a", 0, thing)
                self.refused(BadPace, thing, lost_days, history, ("a", 1), thing, -1)
                self.refused(BadPace, thing, first_lost, history, thing, -1)
            if not (thing is None or type(thing) is int and thing >= 0):
                self.refused(BadLife, thing, lost_days, history, ("a", 1), 1, thing)
                self.refused(BadLife, thing, first_lost, history, 1, thing)
            if thing != ["a", 1]:
                self.refused(BadHolder, thing, lost_days, history, thing, 0, -1)
        for thing in (("a", 0), ("a", 8), ("b", 1), ("d", 1), ("a", True), ("a", 1, 1), ("a", "1"), (["a"], 1)):
            self.refused(BadHolder, thing, lost_days, history, thing, 0, -1)
        self.same(lost_days(history=history, holder=["a", 1], pace=1, life=3), [(2, 3)])
        self.same(first_lost(life=3, pace=1, history=history), (("a", 1), 2))


if __name__ == "__main__":
    unittest.main()
