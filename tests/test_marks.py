import itertools
import random
import unittest

from oldaddress.errors import BadMarks, BadMoment, BadPromise, NoAddress
from oldaddress.histories import History
from oldaddress.lands import Land
from oldaddress.marks import (
    are_bad,
    are_marks,
    bad_stretches,
    is_good,
    least_marks,
    lone_holders,
    marked_table,
    marking,
)
from oldaddress.viewing import seen_table
from tests.asking import Asking, waiting
from tests.naive import junk, promises, random_histories

SOME = [("all", None, None), ("all", 1, None), ("all", 2, 3), ("first", None, 2), ("most", None, None), ("all", None, 0)]
ALL = ("all", None, None)


class NaiveMarks:
    """Served holders of an address, looked at one by one."""

    def __init__(self, naive, promise, address, moment):
        self.naive, self.width = naive, promise[1]
        comers = naive.comers(promise[0], promise[2], moment)
        self.group = [(holder, due) for holder, due in comers if holder[0] == address]
        self.moments = [holder[1] for holder, _ in self.group]

    def good(self, first, last):
        between = [(holder, due) for holder, due in self.group if first <= holder[1] <= last]
        return self.naive.table_for(self.width, between) is not None

    def lone(self):
        return [holder for holder, _ in self.group if not self.good(holder[1], holder[1])]

    def stretches(self):
        return [pair for pair in itertools.product(self.moments, repeat=2) if pair[0] <= pair[1]]

    def markings(self):
        """All lists of stretches, one behind another, in which each moment lies."""
        found = [[]]
        for index, moment in enumerate(self.moments):
            longer = []
            for marks in found:
                longer.append(marks + [(moment, moment)])
                if marks:
                    longer.append(marks[:-1] + [(marks[-1][0], moment)])
            found = longer
        return found

    def bad_lists(self, most):
        bad = [pair for pair in self.stretches() if not self.good(*pair)]
        found = [[]]
        for _ in range(most):
            found = [[]] + [way + [b] for way in found for b in bad if not way or way[-1][1] <= b[0]]
        return found


class Marks(Asking):
    def test_example(self):
        history = waiting()
        self.same(least_marks(history, ALL, "a"), [(1, 2), (3, 4)])
        self.same(bad_stretches(history, ALL, "a"), [(1, 3)])
        self.same(least_marks(history, ALL, "b"), [(3, 4)])
        self.same(bad_stretches(history, ALL, "b"), [])
        marks = marking(history=history, promise=["all", None, None])
        self.same(marks, {"a": [(1, 2), (3, 4)], "b": [(3, 4)]})
        expected = {("a", 0): ("a", "b"), ("a", 1): ("a",), ("b", 0): ("b",)}
        self.same(marked_table(history=history, promise=ALL, marks=marks), expected)
        self.same(lone_holders(history=history, promise=("all", 1, None)), [("a", 1), ("a", 2)])
        self.assertIsNone(marking(history, ("all", 1, None)))
        self.same(lone_holders(history, ALL), [])

    def test_good_and_least(self):
        for naive, history in random_histories(311, 45, 7):
            for promise in SOME:
                for moment in (naive.now, naive.now // 2):
                    for address in naive.addresses:
                        self.check_address(NaiveMarks(naive, promise, address, moment), history, promise, address, moment)

    def check_address(self, marks, history, promise, address, moment):
        for first, last in itertools.product(range(history.now() + 1), repeat=2):
            told = is_good(history, promise, address, first, last, moment)
            self.assertIs(told, marks.good(first, last))
        least = least_marks(history, promise, address, moment)
        bad = bad_stretches(history, promise, address, moment)
        if marks.lone():
            self.assertIsNone(least)
            self.assertIsNone(bad)
            return
        fewest = min(len(m) for m in marks.markings() if all(marks.good(*pair) for pair in m))
        self.assertEqual(len(least), fewest)
        self.assertIs(are_marks(history, promise, address, least, moment), True)
        self.assertIs(are_bad(history, promise, address, bad, moment), True)
        self.same(bad, [(one[0], other[0]) for one, other in zip(least, least[1:])])
        self.assertEqual(least == [], marks.moments == [])
        for (first, last), behind in zip(least, least[1:]):
            self.assertFalse(marks.good(first, behind[0]))
            self.assertEqual(marks.moments.index(last) + 1, marks.moments.index(behind[0]))

    def test_just_one_for_each_k(self):
        unlike = set()
        for naive, history in random_histories(312, 60, 6):
            for promise in SOME:
                for address in naive.addresses:
                    marks = NaiveMarks(naive, promise, address, naive.now)
                    if marks.lone():
                        continue
                    fewest = min(len(m) for m in marks.markings() if all(marks.good(*pair) for pair in m))
                    lengths = {len(way) for way in marks.bad_lists(3)}
                    for k in (1, 2, 3):
                        self.assertNotEqual(fewest <= k, k in lengths)
                        unlike.add((k, fewest <= k))
        self.assertLessEqual({(1, True), (1, False), (2, True), (2, False)}, unlike)

    def test_are_marks(self):
        rng = random.Random(313)
        for naive, history in random_histories(313, 40, 5):
            for promise in SOME:
                address = rng.choice(naive.addresses)
                marks = NaiveMarks(naive, promise, address, naive.now)
                all_right = [m for m in marks.markings() if all(marks.good(*pair) for pair in m)]
                stretches = list(itertools.product(range(naive.now + 1), repeat=2))
                things = [list(way) for n in range(3) for way in itertools.product(stretches, repeat=n)]
                for thing in rng.sample(things, min(len(things), 150)) + marks.markings():
                    self.assertIs(are_marks(history, promise, address, thing), thing in all_right)
                    told = tuple(map(list, thing))
                    self.assertIs(are_marks(history, promise, address, told), thing in all_right)

    def test_are_bad(self):
        rng = random.Random(314)
        for naive, history in random_histories(314, 40, 5):
            for promise in SOME:
                address = rng.choice(naive.addresses)
                marks = NaiveMarks(naive, promise, address, naive.now)
                right = marks.bad_lists(2)
                stretches = list(itertools.product(range(naive.now + 1), repeat=2))
                things = [list(way) for n in range(3) for way in itertools.product(stretches, repeat=n)]
                for thing in rng.sample(things, min(len(things), 150)) + right:
                    self.assertIs(are_bad(history, promise, address, thing), thing in right)

    def test_any_object(self):
        history = waiting()
        for thing in junk():
            self.assertIs(are_marks(history, ALL, "a", thing), False)
            self.assertIs(are_marks(history, ALL, "c", thing), thing in ([], ()))
            self.assertIs(are_bad(history, ALL, "a", thing), thing in ([], ()))
            self.assertIs(are_marks(history, ALL, "a", [(1, 2), thing]), False)
            self.assertIs(are_bad(history, ALL, "a", [(1, 3), thing]), False)
            self.assertIs(are_marks(history, ALL, "a", [(1, 2), (3, thing)]), False)
            self.assertIs(are_bad(history, ALL, "a", [[1, thing]]), False)
        self.assertIs(are_bad(history, ALL, "a", [[1, 3]]), True)
        self.assertIs(are_bad(history, ALL, "a", [[True, 3]]), False)
        self.assertIs(are_marks(history, ALL, "a", ([1, 2], (3, 4))), True)
        self.assertIs(are_marks(history, ALL, "a", ([True, 2], (3, 4))), False)

    def test_moments_with_none_between(self):
        deeds = [("make", "a", 1), ("end", "a"), ("wait", 1), ("make", "a", 1), ("move", "a", "b")]
        history = History(Land(["a", "b"], 3), deeds)
        self.same(least_marks(history, ALL, "a"), [(1, 1), (4, 4)])
        self.assertIs(is_good(history, ALL, "a", 2, 3), True)
        self.assertIs(is_good(history, ALL, "a", 4, 1), True)
        self.assertIs(is_good(history, ALL, "a", 1, 4), False)
        self.assertIs(is_good(history=history, promise=ALL, address="a", first=1, last=4, moment=3), True)
        self.assertIs(are_marks(history, ALL, "a", [(1, 2), (4, 4)]), False)
        ended = history.then(("end", "b"))
        self.same(least_marks(ended, ALL, "a"), [(1, 4)])
        self.assertIs(are_marks(ended, ALL, "a", [(1, 4)]), True)
        self.same(least_marks(history, ALL, "a", 0), [])

    def test_neighbours_that_go_together_and_all_that_do_not(self):
        deeds = [("make", "a", 1), ("move", "a", "b"), ("make", "a", 1), ("move", "a", "c"), ("make", "a", 1)]
        history = History(Land(["a", "b", "c"], 3), deeds)
        two = ("first", 2, None)
        self.same(least_marks(history, two, "a"), [(1, 3), (5, 5)])
        self.same(bad_stretches(history, two, "a"), [(1, 5)])
        self.assertIs(is_good(history, two, "a", 3, 5), True)
        self.assertIs(is_good(history, two, "a", 1, 5), False)

    def test_order_of_stretches(self):
        history = History(Land(["a", "b"], 3), [("make", "a", 1), ("wait", 1), ("wait", 1), ("wait", 1)])
        for thing, right in (
            ([(1, 4)], True), ([(1, 1), (2, 4)], True), ([(2, 4), (1, 1)], False), ([(1, 2), (2, 4)], False),
            ([(1, 1), (2, 2), (3, 4)], True), ([(1, 1), (3, 4), (2, 2)], False), ([(2, 2), (3, 4), (1, 1)], False),
            ([(1, 1), (3, 1), (2, 4)], False), ([(1, 1), (2, 3)], False), ([(1, 2), (4, 4)], False), ([], False),
            ([(2, 4)], False), ([(4, 1)], False), ([(1, 4), (4, 4)], False),
        ):
            self.assertIs(are_marks(history, ALL, "a", thing), right)

    def test_order_of_bad_ones(self):
        history = History(Land(["a", "b"], 3), [("make", "a", 1), ("make", "b", 1)] + [("swap", "a", "b")] * 3)
        for thing, right in (
            ([(2, 3), (3, 4), (4, 5)], True), ([(3, 4), (2, 3)], False), ([(2, 4)], True), ([(1, 2)], False),
            ([(2, 5)], True), ([(1, 3), (3, 5)], True), ([(1, 3), (2, 5)], False), ([(2, 3), (4, 5), (3, 4)], False),
            ([(3, 2)], False), ([(2, 3), (4, 5)], True), ([(2, 5), (5, 4)], False),
        ):
            self.assertIs(are_bad(history, ALL, "a", thing), right, thing)

    def test_lone(self):
        for naive, history in random_histories(315, 60):
            for promise in promises():
                for moment in (naive.now, naive.now // 2):
                    lone = []
                    for holder, due in naive.comers(promise[0], promise[2], moment):
                        if naive.table_for(promise[1], [(holder, due)]) is None:
                            lone.append(holder)
                    self.same(lone_holders(history, promise, moment), lone)
                    self.assertIs(marking(history, promise, moment) is None, lone != [])


class MarkedTables(Asking):
    def test_all_markings(self):
        rng = random.Random(321)
        for naive, history in random_histories(321, 60, 6):
            for promise in SOME:
                asked = [a for a in naive.addresses if NaiveMarks(naive, promise, a, naive.now).moments]
                least = marking(history, promise)
                if least is not None:
                    self.assertEqual(list(least), asked)
                    self.assertIsNotNone(marked_table(history, promise, least))
                for _ in range(6):
                    found = {a: NaiveMarks(naive, promise, a, naive.now) for a in asked}
                    marks = {a: rng.choice(found[a].markings()) for a in sorted(asked)}
                    self.check(naive, history, promise, found, marks, least)

    def check(self, naive, history, promise, found, marks, least):
        expected = {}
        for address, told in found.items():
            for mark, (first, last) in enumerate(marks[address]):
                between = [(holder, due) for holder, due in told.group if first <= holder[1] <= last]
                table = naive.table_for(promise[1], between)
                expected[address, mark] = None if table is None else table[address]
        result = marked_table(history, promise, marks)
        if None in expected.values():
            self.assertIsNone(result)
        else:
            self.same(result, expected)
            self.assertEqual(list(result), list(expected))
            self.assertLessEqual(sum(map(len, least.values())), len(expected))
        view = lambda address, moment: [
            mark for mark, (first, last) in enumerate(marks[address]) if first <= moment <= last
        ][0]
        self.assertEqual(seen_table(history, promise, view), result)

    def test_bad_marks(self):
        history = waiting()
        right = {"a": [(1, 2), (3, 4)], "b": [(3, 4)]}
        self.assertIsNotNone(marked_table(history, ALL, {"b": ([3, 4],), "a": ((1, 2), [3, 4])}))
        self.assertIsNone(marked_table(history, ALL, {"b": [(3, 4)], "a": [(1, 4)]}))
        self.assertIsNone(marked_table(history, ALL, {"b": [(3, 3), (4, 4)], "a": [(1, 3), (4, 4)]}))
        for thing in junk():
            self.refused(BadMarks, thing, marked_table, history, ALL, thing)
            for address in ("a", "b"):
                marks = {**right, address: thing}
                self.refused(BadMarks, marks, marked_table, history, ALL, marks)
        for marks in ({"a": right["a"]}, {**right, "c": []}, {**right, 1: []}, {"a": right["a"], "c": []}):
            self.refused(BadMarks, marks, marked_table, history, ALL, marks)
        self.same(marked_table(history, ALL, {}, 0), {})
        self.same(right, {"a": [(1, 2), (3, 4)], "b": [(3, 4)]})

    def test_errors_in_their_order(self):
        history = waiting()
        for thing in junk():
            self.refused(BadPromise, thing, is_good, history, thing, "x", "x", "x", "x")
            self.refused(BadPromise, thing, are_marks, history, thing, "x", [], "x")
            self.refused(BadPromise, thing, are_bad, history, thing, "x", [], "x")
            self.refused(BadPromise, thing, lone_holders, history, thing, "x")
            self.refused(BadPromise, thing, least_marks, history, thing, "x", "x")
            self.refused(BadPromise, thing, bad_stretches, history, thing, "x", "x")
            self.refused(BadPromise, thing, marking, history, thing, "x")
            self.refused(BadPromise, thing, marked_table, history, thing, {}, "x")
            if thing != "a":
                self.refused(NoAddress, thing, is_good, history, ALL, thing, "x", "x", "x")
                self.refused(NoAddress, thing, are_marks, history, ALL, thing, [], "x")
                self.refused(NoAddress, thing, are_bad, history, ALL, thing, [], "x")
                self.refused(NoAddress, thing, least_marks, history, ALL, thing, "x")
                self.refused(NoAddress, thing, bad_stretches, history, ALL, thing, "x")
        for thing in (-1, 5, True, "1", [1], {}):
            self.refused(BadMoment, thing, is_good, history, ALL, "a", thing, "x", "x")
            self.refused(BadMoment, thing, is_good, history, ALL, "a", 1, thing, "x")
            self.refused(BadMoment, thing, is_good, history, ALL, "a", 1, 1, thing)
            self.refused(BadMoment, thing, are_marks, history, ALL, "a", "x", thing)
            self.refused(BadMoment, thing, are_bad, history, ALL, "a", "x", thing)
            self.refused(BadMoment, thing, lone_holders, history, ALL, thing)
            self.refused(BadMoment, thing, least_marks, history, ALL, "a", thing)
            self.refused(BadMoment, thing, bad_stretches, history, ALL, "a", thing)
            self.refused(BadMoment, thing, marking, history, ALL, thing)
            self.refused(BadMoment, thing, marked_table, history, ALL, "x", thing)
        self.refused(BadMoment, None, is_good, history, ALL, "a", None, "x")
        self.refused(BadMoment, None, is_good, history, ALL, "a", 1, None)


if __name__ == "__main__":
    unittest.main()
