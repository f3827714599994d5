import itertools
import random
import unittest

from oldaddress.markedstays import is_marked_giving, marked_giving, marks_for
from oldaddress.refusals import BadMany, BadStays
from oldaddress.stays import giving, is_giving
from tests.asking import Asking
from tests.naive import junk
from tests.test_stays import EXAMPLE, all_days, bound_on, random_stays

NONE = [(0, 2, 3), (1, 6, 3), (3, 4, 3), (5, 7, 3)]


def lying_on(stays, day):
    return [index for index, (begin, end, _) in enumerate(stays) if begin <= day <= end]


def is_one(stays, many, marks, numbers):
    """Day by day."""
    for day in all_days(stays):
        lying = [numbers[index] for index in lying_on(stays, day)]
        bound = [numbers[index] for index in bound_on(stays, day)]
        if len(set(lying)) < len(lying) or any(bound.count(number) > marks for number in bound):
            return False
    return all(0 <= number < many for number in numbers)


class Marked(Asking):
    def test_example(self):
        self.same(marked_giving(EXAMPLE, 2, 2), [0, 0, 1, 1])
        self.assertIsNone(marked_giving(NONE, 2, 2))
        self.assertLessEqual(max(len(lying_on(NONE, day)) for day in all_days(NONE)), 2)
        self.assertLessEqual(max(len(bound_on(NONE, day)) for day in all_days(NONE)), 4)
        self.same(marks_for(NONE, 2), 3)

    def test_all_lists(self):
        met = set()
        for stays in random_stays(1550, 120, most=6):
            for many, marks in itertools.product((1, 2, 3), repeat=2):
                lists = list(itertools.product(range(many), repeat=len(stays)))
                good = [list(numbers) for numbers in lists if is_one(stays, many, marks, numbers)]
                told = marked_giving(stays, many, marks)
                self.same(told, good[0] if good else None)
                for numbers in lists[::7] + good[:2]:
                    self.assertIs(is_marked_giving(stays, many, marks, numbers), list(numbers) in good)
                lie = any(len(lying_on(stays, day)) > many for day in all_days(stays))
                bound = any(len(bound_on(stays, day)) > many * marks for day in all_days(stays))
                met.add((bool(good), lie or bound))
        # Stays that neither count forbids may have no marked giving, too: see the example.
        self.assertLessEqual({(True, False), (False, True)}, met)

    def test_neither_count_forbids_and_there_is_none(self):
        rng = random.Random(1551)
        found = 0
        for _ in range(3000):
            stays = []
            for _ in range(rng.randint(4, 5)):
                begin = rng.randint(0, 6)
                stays.append((begin, begin + rng.randint(0, 5), 3))
            if max(len(lying_on(stays, day)) for day in all_days(stays)) > 2:
                continue
            if max(len(bound_on(stays, day)) for day in all_days(stays)) > 4:
                continue
            good = [n for n in itertools.product((0, 1), repeat=len(stays)) if is_one(stays, 2, 2, n)]
            self.same(marked_giving(stays, 2, 2), list(good[0]) if good else None)
            found += not good
        self.assertGreater(found, 0)

    def test_with_one_mark_it_is_a_giving(self):
        for stays in random_stays(1552, 150, most=6):
            for many in (1, 2, 3):
                told = marked_giving(stays, many, 1)
                self.assertEqual(told is None, giving(stays, many) is None)
                if told is not None:
                    self.assertIs(is_giving(stays, many, told), True)
                for numbers in itertools.product(range(many), repeat=len(stays)):
                    self.assertIs(is_marked_giving(stays, many, 1, numbers), is_giving(stays, many, numbers))
                    if len(stays) > 3:
                        break

    def test_marks_for(self):
        met = set()
        for stays in random_stays(1553, 100, most=7):
            for many in (1, 2, 3):
                told = marks_for(stays, many)
                lie = any(len(lying_on(stays, day)) > many for day in all_days(stays))
                self.assertEqual(told is None, lie)
                if told is not None:
                    enough = [marks for marks in range(1, 9) if marked_giving(stays, many, marks) is not None]
                    self.same(told, enough[0])
                    self.assertEqual(enough, list(range(told, 9)))
                met.add(told)
        self.assertLessEqual({None, 1, 2, 3}, met)
        self.same(marks_for([], 1), 1)

    def test_any_object(self):
        stays = [(0, 0, 3), (1, 1, 3)]
        for thing in junk():
            self.assertIs(is_marked_giving(stays, 1, 2, thing), False)
            self.assertIs(is_marked_giving([], 1, 1, thing), isinstance(thing, (list, tuple)) and len(thing) == 0)
        for thing, expected in (([0, 0], True), ((0, 0), True), ([0, 1], False), ([0], False), ([0, False], False)):
            self.assertIs(is_marked_giving(stays=stays, many=1, marks=2, thing=thing), expected)
        self.assertIs(is_marked_giving(stays, 1, 1, [0, 0]), False)
        self.assertIs(is_marked_giving([(0, 1, 0), (1, 1, 0)], 1, 9, [0, 0]), False)

    def test_nine_stays_and_some_more(self):
        rng = random.Random(1554)
        for many_stays in (9, 9, 9, 12):
            stays = []
            for _ in range(many_stays):
                begin = rng.randint(0, 10 ** 12)
                stays.append((begin, begin + rng.randint(0, 10 ** 11), rng.randint(0, 10 ** 12)))
            for many, marks in itertools.product((1, 2, 3), repeat=2):
                told = marked_giving(stays=stays, many=many, marks=marks)
                if told is not None:
                    self.assertIs(is_marked_giving(stays, many, marks, told), True)
            marks_for(stays=stays, many=3)

    def test_errors_in_their_order(self):
        calls = ((is_marked_giving, (0, 0, None)), (marked_giving, (0, 0)), (marks_for, (0,)))
        for thing in junk():
            for call, rest in calls:
                if not isinstance(thing, (list, tuple)):
                    self.refused(BadStays, 0, call, thing, *rest)
                self.refused(BadStays, 1, call, [(0, 0, 0), thing], *rest)
            if not (type(thing) is int and thing >= 1):
                self.refused(BadMany, thing, is_marked_giving, EXAMPLE, thing, "x", None)
                self.refused(BadMany, thing, is_marked_giving, EXAMPLE, 1, thing, None)
                self.refused(BadMany, thing, marked_giving, EXAMPLE, thing, "x")
                self.refused(BadMany, thing, marked_giving, EXAMPLE, 1, thing)
                self.refused(BadMany, thing, marks_for, EXAMPLE, thing)


if __name__ == "__main__":
    unittest.main()
