import itertools
import random
import unittest

from oldaddress.errors import BadPromise
from oldaddress.histories import History
from oldaddress.joined import crowded, is_joining, joining, joint_clash, joint_table, no_room
from oldaddress.lands import Land
from oldaddress.promises import keeps, table
from oldaddress.refusals import BadHistories, BadHistory, Crowded
from tests.asking import Asking, example
from tests.naive import Naive, junk, promises, random_deeds

ONE = History(Land(["a", "b"], 9), [("make", "a", 1)])
OTHER = History(Land(["a", "c"], 9), [("make", "a", 2)])


def random_lands(seed, count, many=2, most_deeds=5):
    """Lists of naive histories with some, all or no addresses in common."""
    rng = random.Random(seed)
    for _ in range(count):
        found = []
        pool = rng.choice((["a", "b", "c"], ["a", "b", "c", "d", "e"], ["f", "e", "d", "c", "b", "a"]))
        for _ in range(many):
            names = rng.sample(pool, rng.randint(2, min(4, len(pool))))
            most = rng.randint(1, 4)
            found.append(Naive(names, most, random_deeds(rng, names, most, rng.randint(0, most_deeds))))
        yield found


def all_names(naives):
    names = []
    for naive in naives:
        names += [address for address in naive.addresses if address not in names]
    return names


def naive_crowded(naives):
    return [a for a in all_names(naives) if sum(bool(n.rows[-1].get(a)) for n in naives) > 1]


def comers_at(naives, policy, life, address):
    """The pairs (joint holder, due) of an address, dues in the order of all addresses."""
    names = all_names(naives)
    found = []
    for index, naive in enumerate(naives):
        for holder, due in naive.comers(policy, life, naive.now):
            if holder[0] == address:
                found.append(((index, holder), tuple(sorted(due, key=names.index))))
    return found


def serves(width, entry, due):
    if width is None or not due:
        return entry == due
    return len(entry) <= width and set(due) <= set(entry)


def naive_table(naives, promise):
    policy, width, life = promise
    names = all_names(naives)
    entries = [e for many in range(len(names) + 1) for e in itertools.combinations(names, many)]
    found = {}
    for address in names:
        dues = {due for _, due in comers_at(naives, policy, life, address)}
        if dues:
            good = [entry for entry in entries if all(serves(width, entry, due) for due in dues)]
            if not good:
                return None
            found[address] = good[0]
    return found


def naive_clash(naives, promise):
    policy, width, life = promise
    names = all_names(naives)
    for address in names:
        comers = comers_at(naives, policy, life, address)
        entries = [e for many in range(len(names) + 1) for e in itertools.combinations(names, many)]
        if any(all(serves(width, entry, due) for _, due in comers) for entry in entries):
            continue
        first, told = comers[0]
        for joint, due in comers:
            if due != told if width is None else bool(due) != bool(told):
                return (first, joint)
        pairs = [(name, [joint for joint, due in comers if name in due]) for name in names]
        return [(name, joints[0]) for name, joints in pairs if joints][:width + 1]
    return None


def naive_rooms(one, other):
    return [a for a in other.addresses if not other.rows[-1][a] and not one.rows[-1].get(a)]


def naive_joinings(one, other, promise, most):
    """All joinings with at most so many days."""
    full = [a for a in other.addresses if other.rows[-1][a] and one.rows[-1].get(a)]
    found = []
    for days in range(most + 1):
        for places in itertools.permutations(naive_rooms(one, other), len(full)):
            moves = [("move", a, b) for a, b in zip(full, places)]
            if naive_table([one.waited(days), other.then(*moves).waited(days)], promise) is not None:
                found.append((moves, days))
    return found


class Joint(Asking):
    def test_example(self):
        self.same(crowded([ONE, OTHER]), ["a"])
        later = OTHER.then(("move", "a", "c"))
        self.same(joint_table([ONE, later], ("all", 2, 1)), {"a": ("a", "c"), "c": ("c",)})
        self.assertIsNone(joint_table([ONE, later], ("all", None, 1)))
        self.same(joint_clash([ONE, later], ("all", None, 1)), ((0, ("a", 1)), (1, ("a", 1))))

    def test_crowded(self):
        for many in (2, 3):
            for naives in random_lands(1810, 60, many):
                self.same(crowded([naive.told() for naive in naives]), naive_crowded(naives))
        self.same(crowded(histories=(ONE, OTHER, ONE)), ["a"])

    def test_just_one(self):
        met = set()
        for many in (2, 2, 3, 4):
            for naives in random_lands(1811 + many, 70, many):
                histories = [naive.told() for naive in naives]
                full = naive_crowded(naives)
                for promise in promises()[::4]:
                    if full:
                        self.refused(Crowded, full[0], joint_table, histories, promise)
                        self.refused(Crowded, full[0], joint_clash, histories, promise)
                        continue
                    told = joint_table(histories, promise)
                    self.same(told, naive_table(naives, promise))
                    self.same(joint_clash(histories, promise), naive_clash(naives, promise))
                    met.add((told is None, all(keeps(history, promise) for history in histories)))
                    if told is not None:
                        self.assertTrue(all(keeps(history, promise) for history in histories))
                        self.assertEqual(list(told), [a for a in all_names(naives) if a in told])
                    if promise[1] is None:
                        self.check_pairs(histories, promise, told)
        self.assertEqual(met, {(False, True), (True, True), (True, False)})

    def check_pairs(self, histories, promise, told):
        """By width None just if each has one, and what two lands hold is () in all; so just if each two have one."""
        tables = [table(history, promise) for history in histories]
        alone = None not in tables
        if alone:
            for one, other in itertools.combinations(tables, 2):
                for address in set(one) & set(other):
                    alone = alone and one[address] == other[address] == ()
        self.assertEqual(told is not None, alone)
        pairs = [joint_table(pair, promise) for pair in itertools.combinations(histories, 2)]
        self.assertEqual(told is not None, None not in pairs)

    def test_one_history_alone_and_a_stranger(self):
        """With a land that has nothing in common and no holders the table is that of the one alone."""
        empty = History(Land(["x", "y"], 1), [])
        for promise in (("all", 2, None), ("all", None, 0), ("first", None, None)):
            self.same(joint_table([example(), empty], promise), table(example(), promise))
            self.same(joint_table([empty, example()], promise), table(example(), promise))

    def test_dues_in_the_order_of_all_addresses(self):
        one = History(Land(["c", "b"], 4), [])
        other = History(Land(["a", "b", "c"], 4), [("make", "a", 2), ("split", "a", 1, "b", "c")])
        self.same(joint_table([one, other], ("all", None, None)), {"c": ("c",), "b": ("b",), "a": ("c", "b")})
        self.same(joint_clash([one, other], ("all", 1, None)), [("c", (1, ("a", 1))), ("b", (1, ("a", 1)))])

    def test_errors_in_their_order(self):
        for call in (crowded, joint_table, joint_clash):
            rest = () if call is crowded else ("x",)
            for thing in junk():
                if not isinstance(thing, (list, tuple)):
                    self.refused(BadHistories, 0, call, thing, *rest)
                if not isinstance(thing, History):
                    self.refused(BadHistories, 1, call, [ONE, thing], *rest)
                    self.refused(BadHistories, 0, call, (thing,), *rest)
            self.refused(BadHistories, 0, call, [], *rest)
            self.refused(BadHistories, 1, call, [ONE], *rest)
            self.refused(BadHistories, 2, call, [ONE, OTHER, ONE.land(), None], *rest)
        for thing in junk():
            self.refused(Crowded, "a", joint_table, [ONE, OTHER], thing)
            self.refused(BadPromise, thing, joint_table, [ONE, ONE.ahead(0)], thing)
            self.refused(BadPromise, thing, joint_clash, [ONE, ONE.ahead(0)], thing)


class Joinings(Asking):
    def test_example(self):
        self.same(joining(ONE, OTHER, ("all", None, 1)), ([("move", "a", "c")], 2))
        self.same(joining(ONE, OTHER, ("all", 2, 1)), ([("move", "a", "c")], 0))
        self.assertIsNone(no_room(ONE, OTHER))

    def test_just_one(self):
        met = set()
        for naives in random_lands(1820, 160, 2, 4):
            one, other = naives
            told_one, told_other = one.told(), other.told()
            for promise in promises()[::3]:
                life = promise[2]
                found = naive_joinings(one, other, promise, 4 if life is None else life + 2)
                told = joining(told_one, told_other, promise)
                met.add((told is None, told is not None and told[1] > 0, life is None, bool(naive_crowded(naives))))
                if not found:
                    self.assertIsNone(told)
                else:
                    self.assertIn(told, found)
                    self.assertIs(type(told[0]), list)
                    self.assertEqual(told[1], found[0][1])
                    self.assertIs(is_joining(told_one, told_other, promise, told), True)
                    for more in (1, 2, 10 ** 12):
                        self.assertIs(is_joining(told_one, told_other, promise, [told[0], told[1] + more]), True)
                full = no_room(told_one, told_other)
                if life is None:
                    self.assertTrue(told is None or told[1] == 0)
                else:
                    self.assertEqual(told is None, full is not None)
                    self.assertTrue(told is None or told[1] <= life + 1)
        self.assertGreaterEqual(len(met), 7)

    def test_is_joining(self):
        rng = random.Random(1821)
        met = set()
        for naives in random_lands(1822, 60, 2, 4):
            one, other = naives
            promise = rng.choice(promises())
            found = naive_joinings(one, other, promise, 3)
            full = [a for a in other.addresses if other.rows[-1][a] and one.rows[-1].get(a)]
            for days in range(4):
                for places in itertools.product(other.addresses, repeat=len(full)):
                    moves = [("move", a, b) for a, b in zip(full, places)]
                    expected = (moves, days) in found
                    self.assertIs(is_joining(one.told(), other.told(), promise, (moves, days)), expected)
                    met.add((expected, len(full) > 0))
        self.assertEqual(len(met), 4)

    def test_any_object(self):
        promise = ("all", 2, 1)
        for thing in junk():
            self.assertIs(is_joining(ONE, OTHER, promise, thing), False)
            self.assertIs(is_joining(ONE, OTHER, promise, (thing, 0)), False)
            self.assertIs(is_joining(ONE, OTHER, promise, ([thing], 0)), False)
            good = type(thing) is int and thing >= 0
            self.assertIs(is_joining(ONE, OTHER, promise, ([("move", "a", "c")], thing)), good)
        for moves in ([], [("move", "a", "a")], [("move", "a", "b")], [("move", "c", "a")], [("pour", "a", "c")],
                      [("move", "a", "c")] * 2, [("wait", 1), ("move", "a", "c")], {("move", "a", "c"): 1}):
            self.assertIs(is_joining(ONE, OTHER, promise, (moves, 5)), False)
        self.assertIs(is_joining(one=ONE, other=OTHER, promise=promise, thing=[(["move", "a", "c"],), 0]), True)

    def test_moves_in_the_other_land_s_order_to_unlike_places(self):
        one = History(Land(["a", "b"], 9), [("make", "a", 1), ("make", "b", 1)])
        other = History(Land(["b", "x", "a", "y"], 9), [("make", "a", 1), ("make", "b", 1)])
        moves, days = joining(one, other, ("all", None, 0))
        self.assertEqual([move[1] for move in moves], ["b", "a"])
        self.assertEqual(days, 1)
        promise = ("all", None, 0)
        self.assertIs(is_joining(one, other, promise, ([("move", "b", "y"), ("move", "a", "x")], 1)), True)
        self.assertIs(is_joining(one, other, promise, ([("move", "a", "x"), ("move", "b", "y")], 1)), False)
        self.assertIs(is_joining(one, other, promise, ([("move", "b", "x"), ("move", "a", "x")], 1)), False)

    def test_rooms_that_somebody_remembers_take_longer(self):
        """As few days as can be are wanted over all moves: b was left a moment ago, d was never given."""
        deeds = [("make", "b", 1), ("end", "b"), ("wait", 1), ("make", "a", 2)]
        for names in (["b", "a", "c", "d"], ["d", "c", "a", "b"], ["c", "a", "b", "d"]):
            other = History(Land(names, 9), deeds)
            one = History(Land(["a", "c"], 9), [("make", "c", 1), ("end", "c"), ("make", "a", 1)])
            moves, days = joining(one, other, ("all", 2, 4))
            self.same((moves, days), ([("move", "a", "d")], 0))
            self.assertIs(is_joining(one, other, ("all", 2, 4), ([("move", "a", "b")], 0)), False)
            self.assertIs(is_joining(one, other, ("all", 2, 4), ([("move", "a", "b")], 4)), True)
            self.assertIs(is_joining(one, other, ("all", 2, 4), ([("move", "a", "c")], 4)), False)
            self.assertIs(is_joining(one, other, ("all", 2, 4), ([("move", "a", "c")], 5)), True)

    def test_no_room(self):
        met = set()
        for naives in random_lands(1823, 150, 2, 5):
            one, other = naives
            full = [a for a in other.addresses if other.rows[-1][a] and one.rows[-1].get(a)]
            places = naive_rooms(one, other)
            told = no_room(one.told(), other.told())
            self.same(told, None if len(places) >= len(full) else (full, places))
            met.add((told is None, len(full)))
        self.assertLessEqual({(True, 0), (True, 1), (False, 1), (False, 2)}, met)
        self.same(no_room(other=OTHER.then(("make", "c", 1)), one=ONE), (["a"], []))

    def test_great_lives(self):
        deeds = [("make", "a", 1), ("wait", 10 ** 11), ("grow", "a", 1)]
        other = History(Land(["a", "c"], 9), deeds)
        self.same(joining(ONE, other, ("all", None, 10 ** 12)), ([("move", "a", "c")], 10 ** 12 + 1))

    def test_errors_in_their_order(self):
        for thing in junk():
            if not isinstance(thing, History):
                self.refused(BadHistory, thing, joining, thing, None, "x")
                self.refused(BadHistory, thing, is_joining, thing, None, "x", None)
                self.refused(BadHistory, thing, no_room, thing, None)
                self.refused(BadHistory, thing, joining, ONE, thing, "x")
                self.refused(BadHistory, thing, is_joining, ONE, thing, "x", None)
                self.refused(BadHistory, thing, no_room, ONE, thing)
            self.refused(BadPromise, thing, joining, ONE, OTHER, thing)
            self.refused(BadPromise, thing, is_joining, ONE, OTHER, thing, None)


if __name__ == "__main__":
    unittest.main()
