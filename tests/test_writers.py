import itertools
import random
import unittest

from oldaddress.doing import is_let
from oldaddress.errors import BadLand, BadMost, BadNumbers, BadPromise
from oldaddress.histories import History
from oldaddress.lands import Land
from oldaddress.promises import keeps, misled
from oldaddress.refusals import BadFunction, BadSlate, BadTruth, BadWriter
from oldaddress.writers import keeper_fault, shortest_fault, writer_fault
from tests.asking import Asking, example
from tests.naive import Naive, all_deeds, junk, no_functions, promises, random_histories

TWO = Land(["a", "b"], 2)
EVER = ("all", None, None)


class Gone(Exception):
    pass


def raises(*parts):
    raise Gone


def nothing(addresses):
    return {}


def unchanged(slate, deed):
    return slate


def arrive(slate, address, seen=()):
    """All addresses at which one arrives by a slate that is followed."""
    if address not in slate or address in seen:
        return {address}
    found = set()
    for other in slate[address]:
        found |= arrive(slate, other, seen + (address,))
    return found


def following(slate, deed):
    """Writes where what was moved, poured or split lies, in all entries that lead there."""
    led = {"move": lambda: {deed[1]: {deed[2]}}, "pour": lambda: {deed[1]: {deed[2]}},
           "split": lambda: {deed[1]: set(deed[3:])}, "end": lambda: {deed[1]: set()},
           "swap": lambda: {deed[1]: {deed[2]}, deed[2]: {deed[1]}},
           "cut": lambda: {deed[1]: {deed[1], deed[3]}}}.get(deed[0], dict)()
    for address in "abc":
        old = set(slate.get(address, (address,)))
        new = set()
        for other in old:
            new |= led.get(other, {other})
        slate[address] = tuple(sorted(new))
    if deed[0] == "make":
        slate[deed[1]] = (deed[1],)
    return slate


def trimmed(slate, deed):
    """As following, of two addresses."""
    told = following(slate, deed)
    told.pop("c", None)
    return told


WRITERS = [(nothing, unchanged), (nothing, trimmed), (lambda names: {name: [] for name in names}, unchanged),
           (lambda names: {name: names for name in names}, lambda slate, deed: slate)]


def naive_fault(naive, promise, writer):
    """The first moment with a kept promise at which the slate misleads, of all comers one by one."""
    slate = {address: tuple(entry) for address, entry in writer[0](list(naive.addresses)).items()}
    for moment in range(naive.now + 1):
        if moment:
            told = writer[1](dict(slate), naive.deeds[moment - 1])
            slate = {address: tuple(entry) for address, entry in told.items()}
        if naive.table(promise, moment) is None:
            continue
        for holder, due in naive.comers(promise[0], promise[2], moment):
            said = slate.get(holder[0], (holder[0],))
            if not naive.serves(promise[1], said, due):
                return (moment, holder, said)
    return None


def steps(naive, numbers):
    deeds = [deed for deed in all_deeds(naive.addresses, numbers) if naive.can(deed)]
    return deeds + [("wait", n) for n in numbers if n > 0]


def naive_shortest(land, promise, writer, numbers, most):
    level = [Naive(land.addresses(), land.most(), [])]
    for many in range(most + 1):
        for naive in level:
            found = naive_fault(naive, promise, writer)
            if found is not None and found[0] == naive.now:
                return naive.deeds
        if many < most:
            level = [naive.then(deed) for naive in level for deed in steps(naive, numbers)]
    return None


def naive_keeper(land, promise, keeper, numbers, most):
    level = [Naive(land.addresses(), land.most(), [])]
    for _ in range(most):
        longer = []
        for naive in level:
            for deed in steps(naive, numbers):
                let, later = keeper(tuple(naive.deeds), deed), naive.then(deed)
                if let != later.keeps(promise):
                    return ("lax" if let else "strict", later.deeds)
                if let:
                    longer.append(later)
        level = longer
    return None


class Writers(Asking):
    def test_example(self):
        told = shortest_fault(TWO, EVER, (nothing, unchanged), [1], 3)
        self.same(told, [("make", "a", 1), ("move", "a", "b")])

    def test_faults(self):
        met = set()
        for naive, history in random_histories(2040, 60, 7):
            if "d" in naive.addresses[3:] or len(naive.addresses) > 3:
                continue
            names = dict(zip(naive.addresses, "abc"))
            deeds = [tuple(names.get(part, part) if index else part for index, part in enumerate(deed))
                     for deed in naive.deeds]
            naive = Naive([names[address] for address in naive.addresses], naive.most, deeds)
            for writer in [(nothing, following)] * (len(names) == 3) + WRITERS:
                if writer[1] is trimmed and len(names) > 2:
                    continue
                for promise in promises()[::4]:
                    expected = naive_fault(naive, promise, writer)
                    self.same(writer_fault(naive.told(), promise, writer), expected)
                    met.add(None if expected is None else expected[2])
        self.assertLessEqual({None, (), ("a",)}, met)

    def test_who_is_misled(self):
        """At the moment of the fault nobody ahead is; it is misled of [6.7], with slates as whole dicts."""
        for naive, history in random_histories(2041, 60):
            for promise in promises()[::4]:
                slate = {address: (address,) for address in naive.addresses}
                expected = None
                for moment in range(naive.now + 1):
                    wrong = misled(history, promise, slate, moment) if keeps(history, promise, moment) else []
                    if wrong and expected is None:
                        expected = (moment, wrong[0], (wrong[0][0],))
                self.same(writer_fault(history, promise, (nothing, unchanged)), expected)

    def test_what_writers_are_handed(self):
        calls = []

        def begin(addresses):
            calls.append(list(addresses))
            addresses.clear()
            return {"c": ["b", "a"]}

        def write(slate, deed):
            calls.append((dict(slate), deed))
            slate.clear()
            return {"b": (), "a": ["c", "b"]}

        history = example()
        writer_fault(history=history.ahead(0), promise=["all", 1, 0], writer=[begin, write])
        self.same(calls, [["a", "b", "c"]])
        self.assertIsNone(writer_fault(history.ahead(0).then(("wait", 4)), ("all", None, 0), (begin, write)))
        self.same(calls[1:], [["a", "b", "c"], ({"c": ("b", "a")}, ("wait", 4))])
        del calls[:]
        told = writer_fault(history.ahead(0).then(["wait", 4]).then(["make", "b", 1]), ("all", None, 0), (begin, write))
        self.same(told, (2, ("b", 2), ()))
        self.same(calls[2:], [({"a": ("c", "b"), "b": ()}, ("make", "b", 1))])

    def test_a_writer_that_changes_what_it_was_handed_changes_nothing_else(self):
        def write(slate, deed):
            told = dict(slate)
            slate["a"] = ("b",)
            return told

        history = History(TWO, [("make", "a", 1), ("wait", 1), ("grow", "a", 1)])
        kept = {"a": ["a"]}
        self.assertIsNone(writer_fault(history, EVER, (lambda names: kept, write)))
        self.same(kept, {"a": ["a"]})
        self.same(writer_fault(history, EVER, (lambda names: {}, lambda slate, deed: {"a": ["b"]})),
                  (1, ("a", 1), ("b",)))

    def test_entries_in_any_order_of_a_width(self):
        history = History(Land(["a", "b"], 2), [("make", "a", 2), ("cut", "a", 1, "b")])
        writer = (lambda names: {"a": ["b", "a"]}, unchanged)
        self.assertIsNone(writer_fault(history, ("all", 2, None), writer))
        self.same(writer_fault(history, ("all", 1, 0), writer), (1, ("a", 1), ("b", "a")))
        self.assertIsNone(writer_fault(history.ahead(0), ("all", 1, 0), writer))

    def test_only_where_the_promise_is_kept(self):
        history = History(TWO, [("make", "a", 2), ("cut", "a", 1, "b"), ("wait", 1)])
        self.assertIsNone(writer_fault(history.ahead(2), ("all", None, 0), (nothing, unchanged)))
        self.assertIsNone(writer_fault(history, ("all", None, 0), (nothing, unchanged)))
        self.same(writer_fault(history, ("all", 2, 0), (nothing, unchanged)), (2, ("a", 1), ("a",)))

    def test_shortest(self):
        met = set()
        for addresses, most, numbers, many in ((["a", "b"], 2, [1], 4), (["b", "a"], 3, [2, 1], 3),
                                               (["a", "b"], 1, [0, 1, 1], 4), (["a", "c", "b"], 2, (1,), 3)):
            land = Land(addresses, most)
            for writer in WRITERS if len(addresses) == 2 else [WRITERS[0], (nothing, following)]:
                for promise in (EVER, ("first", None, 0), ("all", 2, 1), ("most", 1, 1), ("all", None, 1)):
                    expected = naive_shortest(land, promise, writer, list(dict.fromkeys(numbers)), many)
                    self.same(shortest_fault(land, promise, writer, numbers, many), expected)
                    met.add(None if expected is None else len(expected))
                    if expected is not None:
                        self.assertIsNone(shortest_fault(land, promise, writer, numbers, len(expected) - 1))
                        self.assertEqual(writer_fault(History(land, expected), promise, writer)[0], len(expected))
        self.assertLessEqual({None, 1, 2, 3}, met)

    def test_waits_behind_all_others_as_the_list_has_them(self):
        writer = (nothing, lambda slate, deed: {"a": ()} if deed[0] == "wait" else trimmed(slate, deed))
        self.same(shortest_fault(land=TWO, promise=EVER, writer=writer, numbers=[2, 1], most=4),
                  [("make", "a", 2), ("wait", 2)])
        self.same(shortest_fault(TWO, EVER, writer, [1, 2], 4), [("make", "a", 1), ("wait", 1)])
        forgetful = (nothing, lambda slate, deed: {"b": ()} if deed == ("wait", 10 ** 12) else slate)
        self.same(shortest_fault(TWO, ("all", None, 10 ** 12), forgetful, [1, 10 ** 12], 2),
                  [("make", "a", 1), ("move", "a", "b")])
        self.same(shortest_fault(TWO, ("first", 1, 0), forgetful, [10 ** 12], 3), None)

    def test_no_deeds_at_all(self):
        self.assertIsNone(shortest_fault(TWO, EVER, WRITERS[2], [], 4))
        self.assertIsNone(shortest_fault(TWO, EVER, WRITERS[2], [0], 4))
        self.assertIsNone(shortest_fault(TWO, EVER, WRITERS[2], [1], 0))

    def test_slates_that_are_none(self):
        history = History(TWO, [("wait", 1), ("make", "a", 1)])
        for thing in [thing for thing in junk() if thing not in ({}, {"a": ("a",)})] + [
            {"a": None}, {"c": ()}, {"a": ("c",)}, {"a": ["b", "b"]}, {"a": "b"}, {1: ()}, [("a", ())], {("a",): ()},
        ]:
            for call, ahead, rest in ((writer_fault, (history, EVER), ()), (shortest_fault, (TWO, EVER), ([1], 2))):
                self.refused(BadSlate, thing, call, *ahead, (lambda names: thing, raises), *rest)
                self.refused(BadSlate, thing, call, *ahead, (nothing, lambda slate, deed: thing), *rest)
        with self.assertRaises(Gone):
            writer_fault(history, EVER, (raises, unchanged))
        with self.assertRaises(Gone):
            shortest_fault(TWO, EVER, (nothing, raises), [1], 1)
        self.assertIsNone(shortest_fault(TWO, EVER, (nothing, raises), [1], 0))

    def test_errors_in_their_order(self):
        history = History(TWO, [])
        for thing in junk():
            if not isinstance(thing, Land):
                self.refused(BadLand, thing, shortest_fault, thing, "x", None, "x", -1)
            self.refused(BadPromise, thing, writer_fault, history, thing, None)
            self.refused(BadPromise, thing, shortest_fault, TWO, thing, None, "x", -1)
            self.refused(BadWriter, thing, writer_fault, history, EVER, thing)
            self.refused(BadWriter, thing, shortest_fault, TWO, EVER, thing, "x", -1)
            if not isinstance(thing, (list, tuple)):
                self.refused(BadNumbers, 0, shortest_fault, TWO, EVER, WRITERS[0], thing, -1)
            if not (type(thing) is int and thing >= 0):
                self.refused(BadNumbers, 1, shortest_fault, TWO, EVER, WRITERS[0], [1, thing], -1)
                self.refused(BadMost, thing, shortest_fault, TWO, EVER, WRITERS[0], [1], thing)
        for thing in no_functions():
            for writer in ((thing, unchanged), [nothing, thing]):
                self.refused(BadWriter, writer, writer_fault, history, EVER, writer)
        for writer in ((nothing,), (nothing, unchanged, unchanged), [], {0: nothing, 1: unchanged}):
            self.refused(BadWriter, writer, writer_fault, history, EVER, writer)


class Keepers(Asking):
    def keeper_of(self, land, promise):
        return lambda deeds, deed: is_let(History(land, deeds), promise, deed)

    def test_a_keeper_without_fault_lets_just_what_the_promise_lets(self):
        for addresses, most, numbers, many in ((["a", "b"], 2, [1], 3), (["c", "a", "b"], 1, [1], 3)):
            land = Land(addresses, most)
            for promise in (EVER, ("first", 1, 0), ("all", 2, 1)):
                self.assertIsNone(keeper_fault(land, promise, self.keeper_of(land, promise), numbers, many))

    def test_all_lists(self):
        rng = random.Random(2050)
        met = set()
        for _ in range(40):
            addresses, most, many = rng.choice(((["a", "b"], 2, 4), (["b", "a"], 3, 3), (["c", "b", "a"], 2, 2)))
            land = Land(addresses, most)
            promise = rng.choice(promises())
            right, odd, at = self.keeper_of(land, promise), rng.choice(["swap", "cut", "end", "wait", "make", "drop"]), (
                rng.randint(0, many))

            def keeper(deeds, deed):
                return right(deeds, deed) != (len(deeds) == at and deed[0] == odd)

            expected = naive_keeper(land, promise, keeper, [1, 2], many)
            self.same(keeper_fault(land, promise, keeper, [1, 2], many), expected)
            met.add(None if expected is None else (expected[0], len(expected[1])))
        self.assertLessEqual({None, "lax", "strict"}, {told if told is None else told[0] for told in met})

    def test_all_and_nothing(self):
        for promise in (EVER, ("first", None, 1), ("most", 2, 0)):
            told = keeper_fault(TWO, promise, lambda deeds, deed: True, [1], 4)
            self.same(told, naive_keeper(TWO, promise, lambda deeds, deed: True, [1], 4))
            self.assertEqual(told[0], "lax")
        self.same(keeper_fault(land=TWO, promise=EVER, keeper=lambda deeds, deed: False, numbers=[3, 1], most=4),
                  ("strict", [("make", "a", 1)]))
        self.same(keeper_fault(TWO, EVER, lambda deeds, deed: False, [3], 1), ("strict", [("wait", 3)]))
        self.assertIsNone(keeper_fault(TWO, EVER, lambda deeds, deed: False, [1], 0))
        self.assertIsNone(keeper_fault(TWO, EVER, raises, [], 10 ** 12))

    def test_what_keepers_are_handed(self):
        calls = []

        def keeper(deeds, deed):
            calls.append((deeds, deed))
            return deed[0] in ("make", "wait", "grow")

        told = keeper_fault(TWO, EVER, keeper, [1], 2)
        self.same(told, ("strict", [("make", "a", 1), ("move", "a", "b")]))
        made = ("make", "a", 1)
        self.same(calls, [((), made), ((), ("make", "b", 1)), ((), ("wait", 1)), ((made,), ("make", "b", 1)),
                          ((made,), ("grow", "a", 1)), ((made,), ("move", "a", "b"))])

    def test_no_wait_of_no_days(self):
        asked = []

        def keeper(deeds, deed):
            asked.append(deed)
            return True

        self.assertIsNone(keeper_fault(TWO, EVER, keeper, [0, 2, 0, 5], 1))
        self.same(asked, [("make", "a", 2), ("make", "b", 2), ("wait", 2), ("wait", 5)])

    def test_no_truths(self):
        for thing in junk():
            if not isinstance(thing, bool):
                self.refused(BadTruth, thing, keeper_fault, TWO, EVER, lambda deeds, deed: thing, [1], 1)
        with self.assertRaises(Gone):
            keeper_fault(TWO, EVER, raises, [1], 1)

    def test_four_deeds_in_a_reasonable_time(self):
        """All lists of four deeds of a land of two addresses; the answers to shorter ones are found once."""
        land, promise = Land(["a", "b"], 4), ("first", 1, None)
        histories, asked = {(): History(land, [])}, []

        def keeper(deeds, deed):
            later = histories[deeds].then(deed)
            asked.append(deed)
            let = keeps(later, promise)
            if let and len(deeds) < 3:
                histories[deeds + (deed,)] = later
            return let

        self.assertIsNone(keeper_fault(land, promise, keeper, [1, 2], 4))
        self.assertGreater(len(asked), 4000)

    def test_errors_in_their_order(self):
        for thing in junk():
            if not isinstance(thing, Land):
                self.refused(BadLand, thing, keeper_fault, thing, "x", None, "x", -1)
            self.refused(BadPromise, thing, keeper_fault, TWO, thing, None, "x", -1)
            if not isinstance(thing, (list, tuple)):
                self.refused(BadNumbers, 0, keeper_fault, TWO, EVER, raises, thing, -1)
            if not (type(thing) is int and thing >= 0):
                self.refused(BadNumbers, 2, keeper_fault, TWO, EVER, raises, (1, 0, thing), -1)
                self.refused(BadMost, thing, keeper_fault, TWO, EVER, raises, [1], thing)
        for thing in no_functions():
            self.refused(BadFunction, thing, keeper_fault, TWO, EVER, thing, "x", -1)


if __name__ == "__main__":
    unittest.main()
