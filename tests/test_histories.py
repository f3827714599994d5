import random
import unittest

from oldaddress.desks import Desk
from oldaddress.errors import (
    BadDeeds,
    BadIndex,
    BadLand,
    BadMoment,
    BadNumbers,
    BadPiece,
    CannotBeDone,
    NoAddress,
)
from oldaddress.histories import History, deeds_now
from oldaddress.lands import Land
from tests.asking import Asking, example, waiting
from tests.naive import Naive, all_deeds, all_histories, can, junk, random_histories, stretches

MOMENT_METHODS = ("rows", "many", "made", "day", "last_day")


class Example(Asking):
    def test_example(self):
        history = example()
        self.same(history.rows(), {"a": [(6, 6)], "b": [(3, 3), (1, 2)], "c": []})
        self.assertEqual(list(history.rows()), ["a", "b", "c"])
        self.assertIsNone(history.where(4))
        self.same(history.index_of(2), ("b", 2))
        self.assertEqual([history.day(), history.last_day(2), history.age(2), history.age(3)], [3, 2, 1, 0])
        self.assertEqual([history.many(), history.made()], [4, 6])


class Rows(Asking):
    def check(self, naive, history):
        for moment in range(naive.now + 1):
            rows = history.rows(moment)
            self.same(rows, {a: stretches(row) for a, row in naive.rows[moment].items()})
            self.assertEqual(list(rows), naive.addresses)
            self.assertEqual(history.many(moment), sum(map(len, naive.rows[moment].values())))
            self.assertEqual(history.made(moment), naive.made[moment])
            self.assertEqual(history.day(moment), naive.days[moment])
            for piece in range(1, naive.made[-1] + 2):
                address = naive.where(piece, moment)
                self.assertEqual(history.where(piece, moment), address)
                spot = None if address is None else (address, naive.rows[moment][address].index(piece))
                self.same(history.index_of(piece, moment), spot)
            for address in naive.addresses:
                row = naive.rows[moment][address]
                self.same(history.row(address, moment), stretches(row))
                self.assertEqual([history.piece_at(address, k, moment) for k in range(len(row))], row)
                self.refused(BadIndex, len(row), history.piece_at, address, len(row), moment)
            for learned in range(moment + 1):
                self.assertEqual(history.age(learned, moment), naive.age(learned, moment))

    def test_piece_by_piece(self):
        for naive, history in random_histories(1, 150):
            self.check(naive, history)

    def test_none_is_now(self):
        for _, history in random_histories(2, 20):
            now = history.now()
            for name in MOMENT_METHODS:
                self.same(getattr(history, name)(), getattr(history, name)(now))
                self.same(getattr(history, name)(moment=None), getattr(history, name)(moment=now))
            self.same(history.row("d"), history.row(address="d", moment=now))
            self.same(history.where(1), history.where(piece=1, moment=now))
            self.same(history.index_of(1), history.index_of(piece=1, moment=now))
            self.same(history.age(0), history.age(learned=0, moment=now))

    def test_nothing_lives_at_moment_0(self):
        history = example()
        self.same(history.rows(0), {"a": [], "b": [], "c": []})
        self.assertEqual([history.many(0), history.made(0), history.day(0), history.last_day(0)], [0] * 4)
        self.assertIsNone(history.where(1, 0))
        self.assertIsNone(history.index_of(1, 0))
        self.refused(BadIndex, 0, history.piece_at, "a", 0, 0)

    def test_told_lists_are_the_callers(self):
        history = example()
        history.rows()["b"].clear()
        history.rows().clear()
        history.row("b").clear()
        history.deeds().clear()
        self.same(history.rows(), {"a": [(6, 6)], "b": [(3, 3), (1, 2)], "c": []})
        self.assertEqual(history.now(), 6)

    def test_neighbours_that_go_on_are_one(self):
        land = Land(["a", "b"], 9)
        history = History(land, [("make", "a", 2), ("grow", "a", 3)])
        self.same(history.row("a"), [(1, 5)])
        cut = history.then(("cut", "a", 2, "b"))
        self.same(cut.then(("pour", "b", "a")).row("a"), [(1, 5)])
        self.same(cut.then(("pour", "a", "b")).row("b"), [(3, 5), (1, 2)])
        parted = History(land, [("make", "a", 1), ("make", "b", 1), ("grow", "a", 1), ("pour", "a", "b")])
        self.same(parted.row("b"), [(2, 2), (1, 1), (3, 3)])
        self.same(parted.then(("drop", "b", 1, 1)).row("b"), [(2, 3)])

    def test_drops_within_and_across_stretches(self):
        history = History(Land(["b", "a"], 9), [("make", "b", 4), ("make", "a", 4), ("pour", "b", "a")])
        self.same(history.row("a"), [(5, 8), (1, 4)])
        for index, many, row in [
            (1, 2, [(5, 5), (8, 8), (1, 4)]), (0, 1, [(6, 8), (1, 4)]), (7, 1, [(5, 8), (1, 3)]), (0, 8, []),
            (3, 2, [(5, 7), (2, 4)]), (4, 4, [(5, 8)]), (0, 4, [(1, 4)]), (2, 5, [(5, 6), (4, 4)]),
        ]:
            dropped = history.then(("drop", "a", index, many))
            self.same(dropped.row("a"), row)
            self.assertEqual([dropped.many(), dropped.made()], [8 - many, 8])
            self.assertIs(history.can(("drop", "a", index, 9 - index)), False)

    def test_great_numbers(self):
        most = 10 ** 15
        deeds = [("make", "a", 10 ** 12), ("cut", "a", 10 ** 11, "b"), ("drop", "b", 5, 10 ** 11)]
        history = History(Land(["a", "b"], most), deeds + [("grow", "b", most - 9 * 10 ** 11), ("wait", 10 ** 12)])
        self.assertEqual(history.many(), most)
        self.assertIs(history.can(("grow", "a", 1)), False)
        self.same(history.row("b")[0], (10 ** 11 + 1, 10 ** 11 + 5))
        self.same(history.row("b")[1], (2 * 10 ** 11 + 6, most + 10 ** 11))
        self.same(history.index_of(most), ("b", most - 2 * 10 ** 11 - 1))
        self.assertEqual(history.piece_at("b", 5), 2 * 10 ** 11 + 6)
        self.assertEqual([history.last_day(4), history.day(5)], [10 ** 12 - 1, 10 ** 12])


class Days(Asking):
    def test_waits_alone_count(self):
        history = waiting()
        self.assertEqual([history.day(m) for m in range(5)], [0, 0, 3, 3, 4])
        self.assertEqual([history.last_day(m) for m in range(5)], [0, 2, 3, 3, 4])
        self.assertEqual([history.age(m) for m in range(5)], [4, 2, 1, 1, 0])

    def test_two_waits(self):
        history = History(Land(["a", "b"], 1), [("wait", 2), ("wait", 5)])
        self.assertEqual([history.last_day(m) for m in range(3)], [1, 6, 7])
        self.assertEqual([history.age(0, 1), history.age(0, 2), history.age(1, 2), history.age(1, 1)], [1, 6, 1, 0])

    def test_last_day_of_each_moment(self):
        for naive, history in random_histories(3, 60):
            for moment in range(naive.now + 1):
                waits = moment < naive.now and naive.deeds[moment][0] == "wait"
                last = naive.days[moment] + (naive.deeds[moment][1] - 1 if waits else 0)
                self.assertEqual(history.last_day(moment), last)


class Making(Asking):
    def test_told(self):
        land = Land(["a", "b"], 3)
        deeds = [["make", "a", 1], ("wait", 2)]
        history = History(land=land, deeds=deeds)
        deeds[0][2] = 2
        deeds.append(("end", "a"))
        self.same(history.deeds(), [("make", "a", 1), ("wait", 2)])
        self.assertTrue(history.land() == land)
        self.assertEqual(history.now(), 2)
        self.assertEqual(History(land, ()).deeds(), [])

    def test_equal(self):
        land = Land(["a", "b"], 3)
        one = History(land, [("make", "a", 1)])
        self.assertTrue(one == History(Land(("a", "b"), 3), (["make", "a", 1],)))
        self.assertFalse(one == History(Land(["a", "b"], 4), [("make", "a", 1)]))
        self.assertFalse(one == History(land, [("make", "a", 2)]))
        self.assertFalse(one == History(land, []))
        for thing in junk():
            self.assertIs(History(land, [("make", "a", 2)]) == thing, False)

    def test_bad_land_goes_first(self):
        for thing in (None, 1, "ab", ["a", "b"], (["a", "b"], 3), example(), {}):
            self.refused(BadLand, thing, History, thing, None)

    def test_bad_deeds(self):
        land = Land(["a", "b", "c"], 5)
        for deeds, index in [
            ([("grow", "a", 1)], 0), ([("make", "a", 5), ("make", "b", 1)], 1), ([("make", "a", 6)], 0),
            ([("make", "a", 1), ("make", "a", 1)], 1), ([("make", "a", 1), ("cut", "a", 1, "b")], 1),
            ([("make", "a", 2), ("cut", "a", 1, "b"), ("cut", "a", 1, "c")], 2),
            ([("make", "a", 2), ("make", "c", 1), ("split", "a", 1, "b", "c")], 2),
            ([("make", "a", 2), ("make", "c", 1), ("split", "a", 1, "c", "b")], 2),
            ([("make", "a", 2), ("move", "b", "a")], 1), ([("make", "a", 2), ("swap", "a", "b")], 1),
            ([("make", "a", 2), ("pour", "a", "b")], 1), ([("make", "a", 2), ("pour", "b", "a")], 1),
            ([("make", "a", 2), ("drop", "a", 1, 2)], 1), ([("make", "a", 2), ("drop", "a", 2, 1)], 1),
            ([("make", "a", 2), ("end", "b")], 1), ([("make", "a", 2), ("make", "b", True)], 1), ([None], 0),
            ([("wait", 1), "wait"], 1), ([("make", "a", 2), ("end", "a"), ("grow", "a", 1)], 2),
            ([("make", "a", 1), ("make", "b", 1), ("move", "a", "b")], 2),
        ]:
            self.refused(BadDeeds, index, History, land, deeds)
            self.refused(BadDeeds, index, History, land, tuple(deeds))
        for thing in (None, 5, "wait", {}, {"wait": 1}, True, land):
            self.refused(BadDeeds, 0, History, land, thing)

    def test_as_many_as_may_live(self):
        land = Land(["a", "b"], 5)
        full = History(land, [("make", "a", 3), ("make", "b", 2)])
        self.assertIs(full.can(("grow", "a", 1)), False)
        self.assertIs(full.then(("drop", "b", 0, 1)).can(("grow", "a", 1)), True)
        self.assertIs(full.then(("end", "a")).can(("make", "a", 3)), True)
        self.assertIs(full.then(("end", "a")).can(("make", "a", 4)), False)


class On(Asking):
    def test_can_and_then(self):
        for naive, history in random_histories(4, 60):
            for deed in all_deeds(naive.addresses, range(naive.most + 2)) + [("wait", 3)]:
                possible = can(naive.rows[-1], naive.most, deed)
                self.assertIs(history.can(deed), possible)
                if possible:
                    longer = History(history.land(), naive.deeds + [deed])
                    self.assertTrue(history.then(list(deed)) == longer)
                    self.same(history.then(deed).rows(), longer.rows())
                    self.same(history.then(deed).deeds(), longer.deeds())
                else:
                    self.refused(CannotBeDone, deed, history.then, deed)
            self.assertEqual(history.deeds(), naive.deeds)

    def test_then_any_object(self):
        history = example()
        for thing in junk():
            self.assertIs(history.can(deed=thing), thing == ["wait", 1])
            if thing != ["wait", 1]:
                self.refused(CannotBeDone, thing, history.then, thing)

    def test_ahead(self):
        for naive, history in random_histories(5, 40):
            for moment in range(naive.now + 1):
                shorter = history.ahead(moment)
                self.assertTrue(shorter == History(history.land(), naive.deeds[:moment]))
                self.same(shorter.rows(), history.rows(moment))
                self.assertEqual(shorter.now(), moment)
                for deed in all_deeds(naive.addresses, [1, 2]):
                    self.assertIs(shorter.can(deed), can(naive.rows[moment], naive.most, deed))
                for deed in naive.deeds[moment:]:
                    shorter = shorter.then(deed)
                self.assertTrue(shorter == history)
                self.same(shorter.rows(), history.rows())
        for thing in (None, -1, 7, True, "1", [1], {}, 0.5):
            self.refused(BadMoment, thing, example().ahead, thing)

    def test_what_never_makes_or_loses(self):
        for _, history in random_histories(6, 80):
            for deed in deeds_now(history, [1, 2]):
                if deed[0] in ("swap", "move", "pour", "cut", "split"):
                    later = history.then(deed)
                    self.assertEqual([later.many(), later.made()], [history.many(), history.made()])


class DeedsNow(Asking):
    def test_order_and_all(self):
        rng = random.Random(7)
        for naive, history in random_histories(7, 60):
            numbers = rng.sample(range(naive.most + 2), rng.randint(0, naive.most + 2))
            expected = [d for d in all_deeds(naive.addresses, numbers) if can(naive.rows[-1], naive.most, d)]
            self.same(deeds_now(history, numbers), expected)
            self.same(deeds_now(history=history, numbers=tuple(numbers + numbers)), expected)

    def test_example(self):
        history = History(Land(["b", "a"], 2), [("make", "b", 2)])
        self.same(deeds_now(history, [2, 1, 0, 1]), [
            ("move", "b", "a"), ("cut", "b", 1, "a"), ("drop", "b", 1, 1), ("drop", "b", 0, 2), ("drop", "b", 0, 1),
            ("end", "b"),
        ])
        self.same(deeds_now(history, []), [("move", "b", "a"), ("end", "b")])

    def test_bad_numbers(self):
        for numbers, index in [([1, -1], 1), ([True], 0), ([0, 1, "1"], 2), ([None], 0), ([[1]], 0), ([{}, 1], 0)]:
            self.refused(BadNumbers, index, deeds_now, example(), numbers)
        for thing in ("12", None, 3, {1: 1}, True):
            self.refused(BadNumbers, 0, deeds_now, example(), thing)


class Refused(Asking):
    def test_bad_moment(self):
        history = example()
        for thing in (-1, 7, 10 ** 20, True, False, "1", [1], (1,), {}, len, history):
            for name in MOMENT_METHODS:
                self.refused(BadMoment, thing, getattr(history, name), thing)
            self.refused(BadMoment, thing, history.row, "a", thing)
            self.refused(BadMoment, thing, history.where, 1, thing)
            self.refused(BadMoment, thing, history.index_of, 1, thing)
            self.refused(BadMoment, thing, history.piece_at, "a", 0, thing)
            self.refused(BadMoment, thing, history.age, 0, thing)
            self.refused(BadMoment, thing, history.age, thing)

    def test_age_of_the_first_then_of_the_second_or_the_earlier_one(self):
        history = example()
        self.refused(BadMoment, None, history.age, None)
        self.refused(BadMoment, "x", history.age, "x", "y")
        self.refused(BadMoment, 2, history.age, 3, 2)

    def test_no_address_goes_ahead(self):
        history = example()
        for thing in ("x", None, 1, ["a"], ("a",), {}, "", True):
            self.refused(NoAddress, thing, history.row, thing, "no moment")
            self.refused(NoAddress, thing, history.piece_at, thing, "no index", "no moment")

    def test_bad_piece_goes_ahead(self):
        history = example()
        for thing in (0, -1, True, None, "1", [1], {}):
            self.refused(BadPiece, thing, history.where, thing, "no moment")
            self.refused(BadPiece, thing, history.index_of, thing, "no moment")

    def test_bad_index_goes_last(self):
        history = example()
        for thing in (3, -1, True, False, None, "0", [0], 10 ** 30):
            self.refused(BadIndex, thing, history.piece_at, "b", thing)
            self.refused(BadMoment, "x", history.piece_at, "b", thing, "x")
        self.assertEqual(history.piece_at(address="b", index=2, moment=6), 2)


class Others(Asking):
    def test_small_ones_all(self):
        for naive, history in all_histories(["a", "b"], 2, 3):
            self.assertEqual(history.rows(), {a: stretches(row) for a, row in naive.rows[-1].items()})

    def test_equal_none_of_another_class(self):
        history = History(Land(["a", "b"], 9), [])
        self.assertIs(history == Desk(Land(["a", "b"], 9)), False)
        self.assertIs(history == history.land(), False)

    def test_naive_of_the_example(self):
        history = example()
        naive = Naive(["a", "b", "c"], 9, history.deeds())
        self.assertEqual(naive.rows[-1], {"a": [6], "b": [3, 1, 2], "c": []})


if __name__ == "__main__":
    unittest.main()
