import random
import unittest

from oldaddress.errors import BadIndex
from oldaddress.latestays import addresses_for, in_the_way, late_begins, latest
from oldaddress.refusals import BadDay, BadMany, BadStays
from oldaddress.stays import giving, least_addresses
from tests.asking import Asking
from tests.naive import junk
from tests.test_stays import EXAMPLE, random_stays


def naive_late(stays, many):
    """Day by day: for each stay the pair of the day on which it begins and of its address."""
    bound = {number: set() for number in range(many)}
    found = {}
    for index in sorted(range(len(stays)), key=lambda index: stays[index][0]):
        begin, end, life = stays[index]
        day = begin
        while all(day in bound[number] for number in bound):
            day += 1
        number = [number for number in bound if day not in bound[number]][0]
        found[index] = (day, number)
        bound[number] |= set(range(day, day + end - begin + life + 1))
    return [found[index] for index in range(len(stays))]


def naive_way(stays, placed, index):
    """The shortest list that ends with a stay, in which each one waits for the one ahead, found breadth first."""
    lists = [[index]]
    while lists:
        for way in lists:
            if placed[way[0]][0] == stays[way[0]][0]:
                return way
        longer = []
        for way in lists:
            day, number = placed[way[0]]
            for other, (begin, end, life) in enumerate(stays):
                last = placed[other][0] + end - begin + life
                if placed[other][1] == number and last + 1 == day:
                    longer.append([other] + way)
        lists = longer
    return None


class Late(Asking):
    def test_example(self):
        self.same(late_begins(EXAMPLE, 2), [0, 1, 6, 12])
        self.same(latest(EXAMPLE, 2), 9)
        self.same(in_the_way(EXAMPLE, 2, 3), [0, 2, 3])

    def test_day_by_day(self):
        lengths = set()
        for stays in random_stays(1540, 150, most=8):
            for many in (1, 2, 3):
                placed = naive_late(stays, many)
                begins = [day for day, number in placed]
                self.same(late_begins(stays, many), begins)
                late = max([day - stay[0] for day, stay in zip(begins, stays)], default=0)
                self.same(latest(stays, many), late)
                for index in range(len(stays)):
                    told = in_the_way(stays, many, index)
                    self.same(told, naive_way(stays, placed, index))
                    self.assertEqual(len(told) == 1, begins[index] == stays[index][0])
                    lengths.add(len(told))
        self.assertLessEqual({1, 2, 3, 4, 5}, lengths)

    def test_more_addresses_make_nobody_later(self):
        for stays in random_stays(1541, 100, most=8):
            ahead = None
            for many in range(1, 9):
                begins = late_begins(stays, many)
                if ahead is not None:
                    self.assertTrue(all(later <= day for later, day in zip(begins, ahead)))
                ahead = begins
                self.assertEqual(latest(stays, many) == 0, giving(stays, many) is not None)
            for late in range(20):
                enough = [many for many in range(1, 10) if latest(stays, many) <= late]
                self.same(addresses_for(stays, late), enough[0])
            self.assertEqual(addresses_for(stays, 0), max(1, least_addresses(stays)))

    def test_edges(self):
        self.same(late_begins([], 1), [])
        self.same(latest([], 3), 0)
        self.same(addresses_for([], 0), 1)
        self.same(addresses_for(stays=[(0, 0, 10 ** 12), (0, 0, 0)], late=10 ** 12), 2)
        self.same(addresses_for([(0, 0, 10 ** 12), (0, 0, 0)], late=10 ** 12 + 1), 1)
        self.same(late_begins([(0, 0, 0), (0, 0, 0), (0, 0, 0)], 1), [0, 1, 2])
        self.same(in_the_way([(0, 0, 0), (0, 0, 0), (0, 0, 0)], 1, 2), [0, 1, 2])
        self.same(late_begins([(1, 1, 0), (0, 0, 0)], 1), [1, 0])
        self.same(in_the_way([(1, 1, 0), (0, 0, 0)], 1, 0), [0])
        self.same(late_begins(stays=[(2, 3, 0), (2, 2, 0)], many=10 ** 12), [2, 2])
        self.same(in_the_way(stays=EXAMPLE, many=2, index=1), [1])

    def test_great_numbers(self):
        rng = random.Random(1542)
        stays = []
        for _ in range(60):
            begin = rng.randint(0, 10 ** 12)
            stays.append((begin, begin + rng.randint(0, 10 ** 12), rng.randint(0, 10 ** 12)))
        for many in (1, 2, 7, 60):
            begins = late_begins(stays, many)
            self.assertEqual(latest(stays, many), max(day - stay[0] for day, stay in zip(begins, stays)))
            for index in range(60):
                way = in_the_way(stays, many, index)
                self.assertEqual(begins[way[0]], stays[way[0]][0])
                for one, other in zip(way, way[1:]):
                    begin, end, life = stays[one]
                    self.assertEqual(begins[one] + end - begin + life + 1, begins[other])
        many = addresses_for(stays, 10 ** 12)
        self.assertLessEqual(latest(stays, many), 10 ** 12)
        self.assertTrue(many == 1 or latest(stays, many - 1) > 10 ** 12)

    def test_errors_in_their_order(self):
        for thing in junk():
            if not isinstance(thing, (list, tuple)):
                for call, rest in ((late_begins, (0,)), (latest, (0,)), (in_the_way, (0, -1)), (addresses_for, (-1,))):
                    self.refused(BadStays, 0, call, thing, *rest)
            for call, rest in ((late_begins, (0,)), (latest, (0,)), (in_the_way, (0, -1)), (addresses_for, (-1,))):
                self.refused(BadStays, 1, call, [(0, 0, 0), thing], *rest)
            if not (type(thing) is int and thing >= 1):
                self.refused(BadMany, thing, late_begins, EXAMPLE, thing)
                self.refused(BadMany, thing, latest, EXAMPLE, thing)
                self.refused(BadMany, thing, in_the_way, EXAMPLE, thing, -1)
            if not (type(thing) is int and 0 <= thing < 4):
                self.refused(BadIndex, thing, in_the_way, EXAMPLE, 2, thing)
            if not (type(thing) is int and thing >= 0):
                self.refused(BadDay, thing, addresses_for, EXAMPLE, thing)
        self.refused(BadIndex, 0, in_the_way, [], 1, 0)
        self.refused(BadIndex, 4, in_the_way, EXAMPLE, 1, 4)


if __name__ == "__main__":
    unittest.main()
