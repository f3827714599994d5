import random
import unittest

from oldaddress.errors import BadHolder, BadMoment, BadPromise, NoAddress
from oldaddress.histories import History
from oldaddress.lands import Land
from oldaddress.promises import is_clash, keeps
from oldaddress.refusals import BadHeirs, BadHistory, BadOwners, BadTurns, NoHouse
from oldaddress.streets import Street, comes_to, door_clash, door_tables, learned_at
from tests.asking import Asking, example
from tests.naive import Naive, junk, promises, random_histories

HOUSES = ["south", "east", "north", "west1"]


class NaiveStreet:
    """Who has what, told turn by turn."""

    def __init__(self, naive, owners, heirs, turns):
        self.naive, self.owners, self.heirs, self.turns = naive, owners, heirs, turns

    def owner(self, address, moment):
        house = self.owners[address]
        for turn in self.turns:
            if turn[0] == "hand" and turn[1] <= moment and turn[2] == address:
                house = turn[3]
        return house

    def door(self, house, moment, closed_at_moment=True):
        last = moment if closed_at_moment else moment - 1
        closed = {turn[2] for turn in self.turns if turn[0] == "close" and turn[1] <= last}
        for _ in self.heirs:
            if house is None or house not in closed:
                return house
            house = self.heirs[house]
        return house if house not in closed else None

    def learned_at(self, address, moment):
        if not self.naive.rows[moment][address]:
            return None
        return self.door(self.owner(address, moment), moment, False)

    def comers(self, promise, moment):
        """The dict from houses to who comes there, and the list of who is shut out."""
        found, out = {}, []
        for holder in self.naive.holders(promise[2], moment):
            house = self.learned_at(*holder)
            if house is None:
                continue
            door = self.door(house, moment)
            due = self.naive.due(holder, promise[0], moment)
            if door is not None:
                found.setdefault(door, []).append((holder, due))
            elif due:
                out.append(holder)
        return found, out

    def tables(self, promise, moment):
        found, out = self.comers(promise, moment)
        tables = {house: self.naive.table_for(promise[1], found[house]) for house in sorted(found)}
        return None if out or None in tables.values() else tables


def random_streets(seed, count, most_deeds=7, open_ones=False):
    """Triples (naive street, street of the program, rng)."""
    rng = random.Random(seed)
    for naive, history in random_histories(seed, count, most_deeds):
        houses = rng.sample(HOUSES, rng.randint(1, 4))
        owners = {address: rng.choice(houses) for address in naive.addresses}
        heirs = {house: rng.choice(houses + [None]) for house in houses}
        turns, owned, closed, moment = [], dict(owners), set(), 0
        for _ in range(rng.randint(0, 6)):
            moment = rng.randint(moment, naive.now)
            house = rng.choice(houses)
            address = rng.choice(naive.addresses)
            if house in closed:
                continue
            if rng.random() < 0.5 and not open_ones:
                closed.add(house)
                turns.append(("close", moment, house))
            elif owned[address] != house:
                owned[address] = house
                turns.append(("hand", moment, address, house))
        yield NaiveStreet(naive, owners, heirs, turns), Street(history, owners, heirs, turns), rng


def north_and_south():
    deeds = [("make", "a", 1), ("move", "a", "b"), ("make", "a", 1)]
    history = History(Land(["a", "b"], 9), deeds)
    heirs = {"north": "south", "south": None}
    return Street(history, {"a": "north", "b": "south"}, heirs, [("hand", 3, "a", "south")])


class Making(Asking):
    land = Land(["a", "b"], 9)
    history = History(land, [("make", "a", 1), ("wait", 1)])
    owners = {"a": "n", "b": "s"}
    heirs = {"s": "n", "n": None, "e": "e"}

    def test_told(self):
        owners, heirs, turns = dict(self.owners), dict(self.heirs), [["close", 1, "e"], ["hand", 2, "a", "s"]]
        street = Street(history=self.history, owners=owners, heirs=heirs, turns=turns)
        owners["a"], heirs["s"] = "s", None
        turns[0][2] = "n"
        turns[1][2] = "b"
        turns.pop()
        same = Street(self.history, self.owners, self.heirs, (("close", 1, "e"), ("hand", 2, "a", "s")))
        self.assertTrue(street == same)
        self.assertTrue(street.history() == self.history)
        self.same(street.houses(), ["e", "n", "s"])
        self.same(street.turns(), [("close", 1, "e"), ("hand", 2, "a", "s")])
        street.turns().clear()
        street.houses().clear()
        self.same(street.turns(), [("close", 1, "e"), ("hand", 2, "a", "s")])
        self.assertEqual([street.owner("a", m) for m in (0, 1, 2, None)], ["n", "n", "s", "s"])
        self.assertEqual(street.door("s"), "s")
        self.same(Street(self.history, self.owners, self.heirs, ()).turns(), [])

    def test_equal(self):
        one = Street(self.history, self.owners, self.heirs, [("close", 1, "e")])
        same = Street(self.history, {"b": "s", "a": "n"}, {"n": None, "e": "e", "s": "n"}, (["close", 1, "e"],))
        self.assertTrue(one == same)
        self.assertFalse(one != same)
        for other in (
            Street(self.history, self.owners, self.heirs, [("close", 2, "e")]),
            Street(self.history, {"a": "n", "b": "n"}, self.heirs, [("close", 1, "e")]),
            Street(self.history, self.owners, {"s": "n", "n": None, "e": None}, [("close", 1, "e")]),
            Street(self.history.ahead(1), self.owners, self.heirs, [("close", 1, "e")]),
        ):
            self.assertFalse(one == other)
        for thing in junk():
            self.assertIs(one == thing, False)

    def test_bad_history_goes_first(self):
        for thing in junk():
            if not isinstance(thing, History):
                self.refused(BadHistory, thing, Street, thing, None, None, None)

    def test_bad_owners(self):
        for thing in junk() + [
            {"a": "n"}, {"a": "n", "b": "s", "c": "s"}, {"a": "n", "b": None}, {"a": "n", "b": "S"},
            {"a": "n", "b": ["s"]}, {"a": "n", "b": 1}, {"a": "n", 1: "s"}, [("a", "n"), ("b", "s")],
            {"a": "n", "b": "toolong89"}, {"a": "n", ("b",): "s"}, {"a": "n", "b": ""},
        ]:
            self.refused(BadOwners, thing, Street, self.history, thing, None, None)

    def test_bad_heirs(self):
        for thing in junk() + [
            {"n": None}, {"s": None}, {"n": None, "s": "x"}, {"n": None, "s": 1}, {"n": None, "s": None, "X": None},
            {"n": None, "s": ["n"]}, {"n": None, "s": None, 1: None}, [("n", None), ("s", None)],
            {"n": None, "s": None, None: None}, {"n": None, "s": None, "e": "x"}, {"n": True, "s": None},
        ]:
            self.refused(BadHeirs, thing, Street, self.history, self.owners, thing, None)

    def test_bad_turns(self):
        close, hand = ("close", 1, "e"), ("hand", 1, "a", "s")
        for turns, index in [
            ([("hand", 0, "a", "n")], 0), ([hand, ("hand", 2, "a", "s")], 1), ([close, close], 1),
            ([close, ("hand", 1, "a", "e")], 1), ([hand, ("close", 0, "e")], 1), ([("close", 3, "e")], 0),
            ([("close", True, "e")], 0), ([("close", -1, "e")], 0), ([("close", None, "e")], 0),
            ([("close", 1, "x")], 0), ([("close", 1, "a")], 0), ([("hand", 1, "c", "s")], 0),
            ([("hand", 1, "a", "x")], 0), ([("hand", 1, "a")], 0), ([("close", 1)], 0), ([("close",)], 0), ([()], 0),
            ([("close", 1, "e", "e")], 0), ([("hand", 1, "a", "s", 1)], 0), ([("open", 1, "e")], 0),
            ([hand, close, None], 2), ([hand, "close"], 1), ([hand, {}], 1), ([("hand", 1, ["a"], "s")], 0),
            ([("hand", 1, "a", ["s"])], 0), ([(["hand"], 1, "a", "s")], 0), ([("close", [1], "e")], 0),
            ([hand, ("hand", 1, "a", "n"), ("hand", 1, "a", "n")], 2), ([("close", 1, None)], 0),
            ([("hand", 0, "a", "s"), ("close", 2, "e"), ("close", 1, "n")], 2), ([("hand", 1, "a", "s", "s")], 0),
            ([("hand", 1, "a", "s", "n")], 0), ([("close", 1, "s", "n")], 0),
        ]:
            self.refused(BadTurns, index, Street, self.history, self.owners, self.heirs, turns)
            self.refused(BadTurns, index, Street, self.history, self.owners, self.heirs, tuple(turns))
        for thing in (None, 5, "close", {}, {"close": 1}, True):
            self.refused(BadTurns, 0, Street, self.history, self.owners, self.heirs, thing)

    def test_houses_called_as_addresses(self):
        for turn in (("hand", 1, "a"), ("hand", 1, "b"), ("close", 1, "a", "b")):
            self.refused(BadTurns, 0, Street, self.history, {"a": "a", "b": "b"}, {"a": "b", "b": None}, [turn])
        street = Street(self.history, {"a": "b", "b": "a"}, {"a": "b", "b": None}, [("hand", 1, "a", "a")])
        self.assertEqual([street.owner("a"), street.owner("b"), street.door("a")], ["a", "a", "a"])

    def test_turns_that_can_be_done(self):
        turns = [("hand", 0, "a", "e"), ("close", 0, "e"), ("hand", 0, "a", "n"), ("hand", 0, "a", "s")]
        turns.append(("close", 2, "n"))
        street = Street(self.history, self.owners, self.heirs, turns)
        self.assertEqual(street.owner("a", 0), "s")
        self.assertIsNone(street.door("e"))
        self.assertEqual([street.door("n", 1), street.door("n")], ["n", None])


class Doors(Asking):
    def test_turn_by_turn(self):
        for naive, street, _ in random_streets(81, 150):
            for moment in range(naive.naive.now + 1):
                for address in naive.naive.addresses:
                    self.assertEqual(street.owner(address, moment), naive.owner(address, moment))
                    self.assertEqual(learned_at(street, address, moment), naive.learned_at(address, moment))
                for house in street.houses():
                    self.assertEqual(street.door(house, moment), naive.door(house, moment))
            now = naive.naive.now
            for house in street.houses():
                self.assertEqual(street.door(house=house), street.door(house=house, moment=now))
            self.assertEqual(street.owner(address="a"), street.owner(address="a", moment=now))

    def test_comes_to(self):
        for naive, street, _ in random_streets(82, 100):
            for moment in range(naive.naive.now + 1):
                for holder in naive.naive.holders(None, moment):
                    house = naive.learned_at(*holder)
                    if house is None:
                        self.refused(BadHolder, holder, comes_to, street, holder, moment)
                    else:
                        self.assertEqual(comes_to(street, list(holder), moment), naive.door(house, moment))

    def test_rings_and_no_heirs(self):
        history = History(Land(["a", "b"], 9), [("make", "a", 1), ("wait", 1), ("wait", 1)])
        heirs = {"n": "s", "s": "n", "e": "e", "w": None, "o": "n"}
        closings = [("close", 1, "n"), ("close", 1, "e"), ("close", 1, "w"), ("close", 2, "s"), ("close", 2, "o")]
        street = Street(history, {"a": "n", "b": "e"}, heirs, closings)
        told = [[street.door(house, m) for house in "nsewo"] for m in (0, 1, 2)]
        self.assertEqual(told, [list("nsewo"), ["s", "s", None, None, "o"], [None] * 5])
        self.assertEqual([learned_at(street, "a", m) for m in range(4)], [None, "n", "s", None])
        self.assertIsNone(comes_to(street, ("a", 2)))
        self.assertEqual(comes_to(street, ("a", 1), 1), "s")
        self.refused(BadHolder, ("a", 3), comes_to, street, ("a", 3), "x")

    def test_hands_and_closings_within_one_moment(self):
        history = History(Land(["a", "b"], 9), [("make", "a", 1), ("wait", 1)])
        heirs = {"n": None, "s": None}
        turns = [("hand", 1, "a", "s"), ("close", 1, "s")]
        street = Street(history, {"a": "n", "b": "n"}, heirs, turns)
        self.assertEqual(learned_at(street, "a", 1), "s")
        self.assertIsNone(comes_to(street, ("a", 1), 1))
        self.assertIsNone(learned_at(street, "a", 2))
        self.refused(BadHolder, ("a", 2), comes_to, street, ("a", 2))

    def test_errors_in_their_order(self):
        street = north_and_south()
        for thing in junk():
            if thing != "a":
                self.refused(NoAddress, thing, street.owner, thing, "x")
                self.refused(NoAddress, thing, learned_at, street, thing, "x")
            self.refused(NoHouse, thing, street.door, thing, "x")
            if thing != ["a", 1]:
                self.refused(BadHolder, thing, comes_to, street, thing, "x")
        for thing in (-1, 4, True, "1", [1], {}):
            self.refused(BadMoment, thing, street.owner, "a", thing)
            self.refused(BadMoment, thing, street.door, "north", thing)
            self.refused(BadMoment, thing, learned_at, street, "a", thing)
            self.refused(BadMoment, thing, comes_to, street, ("a", 1), thing)
        self.refused(BadMoment, None, learned_at, street, "a", None)
        self.refused(BadMoment, 1, comes_to, street, ("b", 2), 1)


class Tables(Asking):
    def test_example(self):
        street = north_and_south()
        promise = ("all", None, 2)
        self.assertIs(keeps(street.history(), promise), False)
        tables = door_tables(street, promise)
        self.same(tables, {"north": {"a": ("b",)}, "south": {"a": ("a",), "b": ("b",)}})
        self.assertIsNone(door_clash(street, promise))
        closed = Street(street.history(), {"a": "north", "b": "south"}, {"north": "south", "south": None}, [
            ("hand", 3, "a", "south"), ("close", 3, "north"),
        ])
        self.same(door_clash(closed, promise), ("south", (("a", 1), ("a", 3))))
        self.assertIsNone(door_tables(closed, promise))

    def test_just_one(self):
        for naive, street, rng in random_streets(83, 60):
            for promise in promises():
                for moment in range(naive.naive.now + 1):
                    tables = naive.tables(promise, moment)
                    self.same(door_tables(street, promise, moment), tables)
                    clash = door_clash(street, promise, moment)
                    self.assertIs(clash is None, tables is not None)
                    if clash is not None:
                        self.check_clash(naive, street, promise, moment, clash)
                    found, out = naive.comers(promise, moment)
                    if keeps(street.history(), promise, moment) and not out:
                        self.assertIsNotNone(tables)
                for call in (door_tables, door_clash):
                    told = call(street=street, promise=promise, moment=naive.naive.now)
                    self.same(call(street, promise), told)

    def check_clash(self, naive, street, promise, moment, clash):
        found, out = naive.comers(promise, moment)
        self.assertIs(type(clash), tuple)
        if out:
            self.same(clash, (None, out[0]))
            return
        bad = [h for h in sorted(found) if naive.naive.table_for(promise[1], found[h]) is None]
        self.assertEqual(clash[0], bad[0])
        self.assertIs(is_clash(street.history(), promise, clash[1], moment), True)
        comers = [holder for holder, _ in found[bad[0]]]
        if type(clash[1]) is tuple:
            self.assertTrue(set(clash[1]) <= set(comers))
            group = [(h, due) for h, due in found[bad[0]] if h[0] == clash[1][0][0]]
            self.assertEqual(clash[1][0], group[0][0])
        else:
            self.assertEqual(len(clash[1]), promise[1] + 1)
            for name, holder in clash[1]:
                first = [h for h, due in found[bad[0]] if h[0] == holder[0] and name in due][0]
                self.assertEqual(holder, first)

    def test_shut_out_and_who_counts_nowhere(self):
        deeds = [("make", "a", 1), ("make", "b", 1), ("wait", 1), ("end", "a"), ("wait", 1)]
        history = History(Land(["a", "b"], 9), deeds)
        heirs = {"n": None, "s": None}
        turns = [("close", 2, "n")]
        street = Street(history, {"a": "n", "b": "s"}, heirs, turns)
        self.same(door_tables(street, ("all", None, None)), {"s": {"b": ("b",)}})
        self.assertIsNone(door_clash(street, ("all", None, None)))
        self.same(door_clash(street, ("all", None, None), 3), (None, ("a", 1)))
        self.assertIsNone(door_tables(street, ("all", None, None), 3))
        self.same(door_tables(street, ("all", None, 0), 3), {"s": {"b": ("b",)}})
        self.assertIsNone(door_clash(street, ("all", None, 0), 3))
        self.same(door_tables(street, ("all", None, None), 0), {})

    def test_errors_in_their_order(self):
        street = north_and_south()
        for call in (door_tables, door_clash):
            for thing in junk():
                self.refused(BadPromise, thing, call, street, thing, "x")
            for thing in (-1, 4, True, "1", [1], {}):
                self.refused(BadMoment, thing, call, street, ("all", None, None), thing)


class Helpers(Asking):
    def test_naive_of_the_example(self):
        street = north_and_south()
        naive = NaiveStreet(
            Naive(["a", "b"], 9, street.history().deeds()), {"a": "north", "b": "south"},
            {"north": "south", "south": None}, street.turns(),
        )
        self.assertEqual(naive.learned_at("a", 1), "north")
        self.assertNotEqual(example(), street.history())


if __name__ == "__main__":
    unittest.main()
