import itertools
import random
import unittest

from oldaddress.closings import bad_runs, closed, closes_in, fewest_doors, may_close
from oldaddress.errors import BadPromise
from oldaddress.histories import History
from oldaddress.holders import living
from oldaddress.lands import Land
from oldaddress.refusals import BadHouses, NotARow
from oldaddress.streets import Street, comes_to, door_tables, learned_at
from tests.asking import Asking
from tests.naive import junk, random_histories
from tests.test_streets import NaiveStreet, north_and_south, random_streets

SOME = [("all", None, 0), ("all", None, 3), ("all", 2, None), ("first", None, 1), ("most", 1, None), ("all", 1, 2)]


def open_houses(street):
    return [house for house in street.houses() if street.door(house) == house]


def closed_later(naive, street, days, houses):
    """The street, by its parts, with a wait behind its history and houses closed behind that."""
    history = street.history()
    if days:
        history = history.then(("wait", days))
    turns = street.turns() + [("close", history.now(), house) for house in houses]
    return Street(history, naive.owners, naive.heirs, turns)


class Closed(Asking):
    def test_example(self):
        street = north_and_south()
        self.assertIs(may_close(street, ["north"], ("all", None, 2)), False)
        self.assertEqual(closes_in(street, ["north"], ("all", None, 2)), 3)
        self.same(fewest_doors(street, ("all", None, 2)), ["north", "south"])
        self.same(bad_runs(street=street, promise=("all", None, 2)), [("north", "south")])
        later = closed(street=street, houses=("north",))
        self.same(later.turns(), [("hand", 3, "a", "south"), ("close", 3, "north")])
        self.assertEqual(later.door("north"), "south")
        self.same(street.turns(), [("hand", 3, "a", "south")])
        self.assertTrue(closed(street, []) == street)

    def test_may_close(self):
        for naive, street, rng in random_streets(91, 80):
            houses = open_houses(street)
            rng.shuffle(houses)
            for many in range(len(houses) + 1):
                some = houses[:many]
                later = closed_later(naive, street, 0, some)
                self.assertTrue(closed(street, some) == later)
                for promise in SOME:
                    kept = NaiveStreet(naive.naive, naive.owners, naive.heirs, later.turns())
                    expected = kept.tables(promise, naive.naive.now) is not None
                    self.assertIs(may_close(street, some, promise), expected)

    def test_in_any_order_and_any_part(self):
        for naive, street, rng in random_streets(92, 150):
            houses = open_houses(street)
            for promise in SOME:
                if not houses or not may_close(street, houses, promise):
                    continue
                for order in itertools.permutations(houses):
                    one_by_one = street
                    for house in order:
                        one_by_one = closed(one_by_one, [house])
                        self.assertIsNotNone(door_tables(one_by_one, promise))
                for many in range(len(houses)):
                    for part in itertools.combinations(houses, many):
                        self.assertIs(may_close(street, part, promise), True)

    def shut_out_now(self, street, promise):
        for holder in NaiveStreet.comers(street, promise, street.naive.now)[1]:
            return holder
        return None

    def test_closes_in(self):
        for naive, street, rng in random_streets(93, 120):
            houses = open_houses(street)
            some = rng.sample(houses, rng.randint(0, len(houses)))
            for promise in SOME:
                most = 4 if promise[2] is None else promise[2] + 3
                tries = [
                    days for days in range(most)
                    if door_tables(closed_later(naive, street, days, some), promise) is not None
                ]
                told = closes_in(street, some, promise)
                self.assertEqual(told, tries[0] if tries else None)
                if self.shut_out_now(naive, promise) is None:
                    if promise[2] is None:
                        self.assertIn(told, (0, None))
                    else:
                        self.assertTrue(told is None or told <= promise[2] + 1)
                        self.assertIs(told is None, self.without_a_door(naive, street, some))

    def without_a_door(self, naive, street, some):
        """Whether something lies now at an address that one learns at a house without a door then."""
        later = closed_later(naive, street, 1, some)
        for address in naive.naive.addresses:
            house = learned_at(later, address, later.history().now())
            if house is not None and later.door(house) is None:
                return True
        return False

    def test_great_lives(self):
        deeds = [("make", "a", 1), ("wait", 5), ("move", "a", "b"), ("make", "a", 1)]
        history = History(Land(["a", "b"], 9), deeds)
        street = Street(history, {"a": "n", "b": "s"}, {"n": "s", "s": None}, [("hand", 4, "a", "s")])
        self.assertEqual(closes_in(street, ["n"], ("all", None, 10 ** 12)), 10 ** 12 + 1)
        self.assertIsNone(closes_in(street, ["n"], ("all", None, None)))
        self.assertEqual(closes_in(street=street, houses=(), promise=("all", None, None)), 0)

    def test_who_closes_has_handed_out_up_to_then(self):
        history = History(Land(["a", "b"], 9), [("make", "a", 1)])
        street = Street(history, {"a": "n", "b": "n"}, {"n": "s", "s": None}, [])
        later = closed(street, ["n"])
        self.assertEqual(learned_at(later, "a", 1), "n")
        self.assertEqual(comes_to(later, ("a", 1)), "s")
        self.assertIs(may_close(street, ["s"], ("all", None, None)), True)
        self.assertIs(may_close(street, ["n", "s"], ("all", None, None)), False)
        self.assertIsNone(closes_in(street, ["n", "s"], ("all", None, 3)))
        self.assertEqual(living(history, ("a", 1)), [(1, 1)])

    def test_errors_in_their_order(self):
        street = closed(north_and_south(), ["north"])
        for houses, index in [
            (["north"], 0), (["south", "south"], 1), (["south", "x"], 1), ([None], 0), ([["south"]], 0), ([1], 0),
            (["south", {}], 1), (["a"], 0), ([""], 0), (["south", True], 1),
        ]:
            self.refused(BadHouses, index, closed, street, houses)
            self.refused(BadHouses, index, may_close, street, houses, "x")
            self.refused(BadHouses, index, closes_in, street, tuple(houses), "x")
        for thing in (None, "south", {"south": 1}, 5, True, street):
            self.refused(BadHouses, 0, closed, street, thing)
            self.refused(BadHouses, 0, may_close, street, thing, "x")
            self.refused(BadHouses, 0, closes_in, street, thing, "x")
        for thing in junk():
            self.refused(BadPromise, thing, may_close, street, ["south"], thing)
            self.refused(BadPromise, thing, closes_in, street, ["south"], thing)


def streets_in_a_row(seed, count):
    """Triples (row of houses, street, rng)."""
    rng = random.Random(seed)
    for naive, history in random_histories(seed, count, 8):
        row = rng.sample(["m", "s", "e", "n", "w", "x1"], rng.randint(1, 6))
        heirs = dict(zip(row, row[1:] + [None]))
        shuffled = {house: heirs[house] for house in sorted(heirs)}
        owners = {address: rng.choice(row) for address in naive.addresses}
        turns, owned, moment = [], dict(owners), 0
        for _ in range(rng.randint(0, 8)):
            moment = rng.randint(moment, naive.now)
            address, house = rng.choice(naive.addresses), rng.choice(row)
            if owned[address] != house:
                owned[address] = house
                turns.append(("hand", moment, address, house))
        yield row, Street(history, owners, shuffled, turns), rng


class Rows(Asking):
    def test_just_one(self):
        bad = 0
        for row, street, _ in streets_in_a_row(94, 120):
            for promise in SOME:
                doors, runs = fewest_doors(street, promise), bad_runs(street, promise)
                if door_tables(street, promise) is None:
                    self.assertIsNone(doors)
                    self.assertIsNone(runs)
                    continue
                bad += len(runs)
                self.check(row, street, promise, doors, runs)
        self.assertGreater(bad, 20)

    def check(self, row, street, promise, doors, runs):
        self.assertEqual(doors, [house for house in row if house in doors])
        self.assertEqual(doors[-1], row[-1])
        self.assertIs(may_close(street, [house for house in row if house not in doors], promise), True)
        for fewer in range(len(doors) - 1):
            for some in itertools.combinations(row[:-1], fewer):
                others = [house for house in row[:-1] if house not in some]
                self.assertIs(may_close(street, others, promise), False)
        self.assertEqual(len(runs), len(doors) - 1)
        end = 0
        for one, other in runs:
            self.assertLessEqual(end, row.index(one))
            end = row.index(other)
            self.assertLess(row.index(one), end)
            self.assertIs(may_close(street, row[row.index(one):end], promise), False)
        self.assertTrue(all(type(run) is tuple for run in runs))

    def test_runs_that_begin_where_others_end(self):
        deeds = []
        for place in ("b", "c", "d"):
            deeds += [("make", "a", 1), ("move", "a", place)]
        history = History(Land(["a", "b", "c", "d"], 9), deeds + [("make", "a", 1)])
        owners = {"a": "n1", "b": "n4", "c": "n4", "d": "n4"}
        heirs = {"n4": None, "n2": "n3", "n3": "n4", "n1": "n2"}
        turns = [("hand", 2, "a", "n2"), ("hand", 4, "a", "n3"), ("hand", 6, "a", "n4")]
        street = Street(history, owners, heirs, turns)
        self.same(fewest_doors(street, ("all", None, None)), ["n1", "n2", "n3", "n4"])
        self.same(bad_runs(street, ("all", None, None)), [("n1", "n2"), ("n2", "n3"), ("n3", "n4")])
        for promise in (("all", 2, None), ("first", 3, None), ("all", 4, None), ("all", None, 0)):
            row = ["n1", "n2", "n3", "n4"]
            doors, runs = fewest_doors(street, promise), bad_runs(street, promise)
            self.assertEqual(len(doors), {2: 2, 3: 2, 4: 1, None: 4}[promise[1]])
            self.check(row, street, promise, doors, runs)

    def test_not_a_row(self):
        history = History(Land(["a", "b"], 9), [])
        owners = {"a": "n", "b": "n"}
        for heirs, turns in [
            ({"n": "n"}, []), ({"n": "s", "s": "n"}, []), ({"n": None, "s": None}, []),
            ({"n": "s", "e": "s", "s": None}, []), ({"n": "s", "s": "e", "e": "s"}, []),
            ({"n": None, "s": "e", "e": "s"}, []), ({"n": "s", "s": None}, [("close", 0, "n")]),
            ({"n": "s", "s": None}, [("close", 0, "s")]), ({"n": "s", "s": "s"}, []),
        ]:
            street = Street(history, owners, heirs, turns)
            for call in (fewest_doors, bad_runs):
                with self.assertRaises(NotARow) as caught:
                    call(street, "no promise")
                self.assertIs(type(caught.exception), NotARow)
        alone = Street(history, owners, {"n": None}, [])
        self.same(fewest_doors(alone, ("all", None, None)), ["n"])
        self.same(bad_runs(alone, ("all", None, None)), [])
        for thing in junk():
            self.refused(BadPromise, thing, fewest_doors, alone, thing)
            self.refused(BadPromise, thing, bad_runs, alone, thing)


if __name__ == "__main__":
    unittest.main()
