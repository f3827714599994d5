import itertools
import unittest

from oldaddress.errors import BadMoment, BadPromise, BadTable
from oldaddress.histories import History, deeds_now
from oldaddress.holders import due, holders
from oldaddress.lands import Land
from oldaddress.promises import clash, is_clash, is_promise, is_table, keeps, mended, misled, table
from tests.asking import Asking, example, waiting
from tests.naive import POLICIES, all_histories, junk, promises, random_histories

ASKED = (table, keeps, clash)
TOLD = (is_table, is_clash, misled, mended)


class Promises(Asking):
    def test_is_promise(self):
        for promise in promises() + [("all", 10 ** 30, 10 ** 30)]:
            self.assertIs(is_promise(promise), True)
            self.assertIs(is_promise(thing=list(promise)), True)
        for thing in junk():
            self.assertIs(is_promise(thing), False)

    def test_bad_promise_goes_ahead(self):
        for thing in junk():
            for call in ASKED:
                self.refused(BadPromise, thing, call, example(), thing, "no moment")
            for call in TOLD:
                self.refused(BadPromise, thing, call, example(), thing, "no table", "no moment")

    def test_bad_moment(self):
        promise = ["all", None, None]
        for thing in (-1, 7, True, "1", [1], {}):
            for call in ASKED:
                self.refused(BadMoment, thing, call, example(), promise, thing)
            for call in TOLD:
                self.refused(BadMoment, thing, call, example(), promise, {}, thing)

    def test_arguments_stay_as_they_are(self):
        thing = {"b": ["b"], "a": ["a", "c"]}
        promise = ["all", 2, None]
        for call in TOLD:
            call(example(), promise, thing)
        self.same([thing, promise], [{"b": ["b"], "a": ["a", "c"]}, ["all", 2, None]])


class Tables(Asking):
    def test_example(self):
        history = waiting()
        self.same(table(history, ("all", None, 0)), {"a": ("a",), "b": ("b",)})
        self.same(table(history, ("all", 2, 1)), {"a": ("a", "b"), "b": ("b",)})
        self.same(clash(history=history, promise=("all", None, 1)), (("a", 2), ("a", 3)))
        self.same(clash(history, ["all", 1, 1]), [("a", ("a", 2)), ("b", ("a", 2))])
        self.assertIsNone(table(history, ("all", None, 1)))

    def check(self, naive, history, promise, moment):
        expected = naive.table(promise, moment)
        told = table(history, promise, moment)
        self.same(told, expected)
        self.assertIs(keeps(history, promise, moment), expected is not None)
        told_clash = clash(history, promise, moment)
        self.assertIs(told_clash is None, expected is not None)
        if expected is None:
            self.same(told_clash, self.clash_as_told(naive, promise, moment))
            self.assertIs(is_clash(history, promise, told_clash, moment), True)
            self.assertIs(is_clash(history, promise, list(map(list, told_clash)), moment), True)
        else:
            self.assertEqual(list(told), [a for a in naive.addresses if a in told])
            self.assertIs(is_table(history, promise, told, moment), True)
            for address in naive.addresses:
                if naive.rows[moment][address]:
                    self.assertIn(address, told[address])
                    if promise[1] is None:
                        self.same(told[address], (address,))

    def clash_as_told(self, naive, promise, moment):
        policy, width, life = promise
        comers = naive.comers(policy, life, moment)
        for address in naive.addresses:
            group = [(holder, due) for holder, due in comers if holder[0] == address]
            if group and naive.table_for(width, group) is None:
                one, told = group[0]
                for other, due in group:
                    if (told != due) if width is None else (bool(told) != bool(due)):
                        return (one, other)
                pairs = []
                for name in naive.addresses:
                    pairs += [(name, holder) for holder, due in group if name in due][:1]
                return pairs[:width + 1]
        return None

    def test_just_one(self):
        for naive, history in random_histories(61, 40):
            for promise in promises():
                for moment in range(naive.now + 1):
                    self.check(naive, history, promise, moment)

    def test_just_one_of_small_ones_all(self):
        for naive, history in all_histories(["a", "b"], 2, 4):
            for promise in itertools.product(POLICIES, (None, 1, 2), (None, 0, 1)):
                self.check(naive, history, promise, naive.now)

    def test_none_is_now(self):
        for naive, history in random_histories(62, 20):
            for promise in promises():
                for call in ASKED:
                    self.same(call(history, promise), call(history=history, promise=promise, moment=naive.now))

    def test_nobody_is_asked(self):
        history = History(Land(["a", "b"], 9), [("make", "a", 1), ("wait", 1), ("end", "a"), ("wait", 5)])
        for moment, life in ((0, None), (4, 4)):
            for width in (None, 1):
                self.same(table(history, ("all", width, life), moment), {})
                self.assertIs(is_table(history, ("all", width, life), {}, moment), True)
                self.assertIs(is_table(history, ("all", width, life), {"a": ()}, moment), False)
        self.same(table(history, ("all", None, 5)), {"a": ()})
        self.same(table(history, ("all", 2, 5)), {"a": ()})

    def test_gone_and_strangers(self):
        history = History(Land(["a", "b"], 9), [("make", "a", 1), ("end", "a"), ("make", "a", 1)])
        for width in (None, 1, 2, 9):
            self.assertIs(keeps(history, ("first", width, None)), False)
            self.same(clash(history, ("first", width, None)), (("a", 1), ("a", 3)))
            self.assertIs(is_clash(history, ("first", width, None), [["a", 3], ["a", 1]]), True)
            self.assertIs(is_table(history, ("first", width, None), {"a": ("a",)}), False)
            self.assertIs(is_table(history, ("first", width, None), {"a": ()}), False)


class IsTable(Asking):
    def test_all_dicts_of_entries(self):
        for naive, history in random_histories(63, 25):
            if len(naive.addresses) > 3:
                continue
            entries = [None] + [list(e) for n in range(4) for e in itertools.permutations(naive.addresses, n)]
            for promise in [("all", None, None), ("all", 1, 2), ("all", 2, None), ("first", 1, None)]:
                comers = naive.comers(promise[0], promise[2], naive.now)
                asked = {holder[0] for holder, _ in comers}
                for chosen in itertools.product(entries, repeat=2):
                    thing = {a: e for a, e in zip(naive.addresses, chosen) if e is not None}
                    right = set(thing) == asked
                    for holder, due in comers:
                        right = right and naive.serves(promise[1], tuple(thing[holder[0]]), due)
                    self.assertIs(is_table(history, promise, thing), right)

    def test_order_counts_for_just_alone(self):
        history = History(Land(["a", "b"], 9), [("make", "a", 2), ("cut", "a", 1, "b")]).then(("swap", "a", "b"))
        cut = history.ahead(1).then(("cut", "a", 1, "b"))
        self.assertIs(is_table(cut, ("all", 2, None), {"b": ["b"], "a": ["b", "a"]}), True)
        split = History(Land(["a", "b", "c"], 9), [("make", "a", 2), ("split", "a", 1, "b", "c")])
        for thing, right in (({"a": ("b", "c")}, True), ({"a": ("c", "b")}, False)):
            thing.update({"b": ("b",), "c": ["c"]})
            self.assertIs(is_table(split, ("all", None, None), thing), right)
            self.assertIs(is_table(split, ("all", 2, None), thing, 2), True)
            self.assertIs(is_table(split, ("all", 1, None), thing), False)

    def test_any_object(self):
        history = History(Land(["a", "b"], 9), [("make", "a", 1)])
        for thing in junk():
            self.assertIs(is_table(history, ("all", 1, 0), thing), thing == {"a": ("a",)})
            self.assertIs(is_table(history, ("all", 2, 0), {"a": thing}), thing in (["a"], ("a",)))
            self.assertIs(is_table(history, ("all", 2, 0), {"a": ["a", thing]}), False)
        self.assertIs(is_table(history, ("all", 2, 0), {"a": ["a", "b"]}), True)
        self.assertIs(is_table(history, ("all", 2, 0), {"a": "a"}), False)
        self.assertIs(is_table(history, ("all", 3, 0), {"a": ["a", "b", "b"]}), False)


class IsClash(Asking):
    def test_two_holders(self):
        for naive, history in random_histories(64, 25):
            for promise in [("all", None, 2), ("first", None, None), ("all", 1, None), ("most", 2, 1)]:
                dues = dict(naive.comers(promise[0], promise[2], naive.now))
                for one in naive.holders(None, naive.now):
                    for other in naive.holders(None, naive.now):
                        shows = one in dues and other in dues and one[0] == other[0]
                        if shows and promise[1] is None:
                            shows = dues[one] != dues[other]
                        elif shows:
                            shows = bool(dues[one]) != bool(dues[other])
                        self.assertIs(is_clash(history, promise, (one, other)), shows)

    def test_pairs(self):
        for naive, history in random_histories(65, 40):
            for promise in [("all", 1, 2), ("all", 1, None), ("most", 1, None)]:
                dues = dict(naive.comers(promise[0], promise[2], naive.now))
                items = [(a, h) for a in naive.addresses for h in naive.holders(None, naive.now)]
                for one, other in itertools.product(items, repeat=2):
                    shows = one[1] in dues and other[1] in dues and one[1][0] == other[1][0]
                    shows = shows and one[0] != other[0] and one[0] in dues[one[1]] and other[0] in dues[other[1]]
                    self.assertIs(is_clash(history, promise, [one, other]), shows)

    def test_just_so_many_pairs(self):
        history = History(Land(["a", "b", "c"], 9), [("make", "a", 3), ("cut", "a", 1, "b"), ("cut", "b", 1, "c")])
        told = clash(history, ("all", 1, None))
        self.same(told, [("a", ("a", 1)), ("b", ("a", 1))])
        three = [("c", ["a", 1]), ("b", ("a", 1)), ("a", ("a", 3))]
        self.same(clash(history, ("all", 2, None)), [("a", ("a", 1)), ("b", ("a", 1)), ("c", ("a", 1))])
        self.assertIs(is_clash(history, ("all", 2, None), three), True)
        self.assertIs(is_clash(history, ("all", 1, None), three), False)
        self.assertIs(is_clash(history, ("all", 1, None), three[1:]), True)
        self.assertIs(is_clash(history, ("all", None, None), told), False)
        self.assertIs(is_clash(history, ("all", 3, None), three), False)
        twice = [three[0], three[1], three[1]]
        self.assertIs(is_clash(history, ("all", 2, None), twice), False)

    def test_any_object(self):
        history = waiting()
        for promise in (("all", None, None), ("all", 1, None), ("all", 2, None)):
            for thing in junk():
                self.assertIs(is_clash(history, promise, thing), False)
                self.assertIs(is_clash(history, promise, [thing, ("a", 1)]), False)
                self.assertIs(is_clash(history, promise, [("a", ("a", 1)), thing]), False)
                shows = is_clash(history, promise, [("a", thing), ("b", ("a", 2))])
                self.assertIs(shows, thing == ["a", 1] and promise[1] == 1)
                shows = is_clash(history, promise, [(thing, ("a", 1)), ("b", ("a", 2))])
                self.assertIs(shows, thing == "a" and promise[1] == 1)
        self.assertIs(is_clash(history, ("all", None, None), [("a", 1), ("a", 3)]), True)
        self.assertIs(is_clash(history, ("all", None, 1), [("a", 1), ("a", 3)]), False)
        self.assertIs(is_clash(history, ("all", None, None), [("a", True), ("a", 3)]), False)
        self.assertIs(is_clash(history, ("all", None, None), [("a", 1), ("a", 3)], 2), False)


class Misled(Asking):
    def things(self, naive):
        entries = [None] + [tuple(e) for n in range(3) for e in itertools.permutations(naive.addresses, n)]
        for chosen in itertools.product(entries, repeat=2):
            pairs = [(a, e) for a, e in zip(naive.addresses[::-1], chosen) if e is not None]
            yield dict(pairs)

    def test_all(self):
        for naive, history in random_histories(66, 25):
            if len(naive.addresses) > 3:
                continue
            for promise in [("all", None, 1), ("all", 2, None), ("first", None, None), ("most", 1, 2)]:
                comers = naive.comers(promise[0], promise[2], naive.now)
                right = naive.table(promise, naive.now)
                for thing in self.things(naive):
                    strangers = [
                        holder for holder, due in comers
                        if holder[0] not in thing or not naive.serves(promise[1], thing[holder[0]], due)
                    ]
                    self.same(misled(history, promise, thing), strangers)
                    wrong = {holder[0] for holder in strangers}
                    healed = None
                    if right is not None:
                        healed = {
                            a: right[a] if a in wrong else thing[a] for a in naive.addresses if a in wrong or a in thing
                        }
                    self.same(mended(history, promise, thing), healed)
                    if healed is not None:
                        self.assertEqual(misled(history, promise, healed), [])

    def test_entries_that_stay_are_tuples_as_they_came(self):
        deeds = [("make", "a", 2), ("split", "a", 1, "b", "c")]
        history = History(Land(["a", "b", "c"], 9), deeds)
        thing = {"c": ["c", "a"], "b": ("a",), "a": ["c", "b"]}
        told = mended(history=history, promise=("all", 2, None), thing=thing, moment=2)
        self.same(told, {"a": ("c", "b"), "b": ("b",), "c": ("c", "a")})
        self.same(misled(history=history, promise=("all", 2, None), thing=thing, moment=2), [("b", 2)])
        self.same(mended(history, ("all", None, None), thing), {"a": ("b", "c"), "b": ("b",), "c": ("c",)})
        self.same(mended(history, ("all", 1, None), thing), None)

    def test_no_dict_that_misleads_nobody_differs_at_fewer_addresses(self):
        for naive, history in random_histories(69, 12):
            if len(naive.addresses) > 2:
                continue
            for promise in [("all", None, 1), ("all", 2, None), ("first", 1, 2)]:
                things = list(self.things(naive))
                right = [thing for thing in things if not misled(history, promise, thing)]
                for thing in things:
                    healed = mended(history, promise, thing)
                    self.assertIs(healed is None, not right)
                    if right:
                        differ = [sum(a.get(x) != thing.get(x) for x in naive.addresses) for a in right + [healed]]
                        self.assertEqual(differ[-1], min(differ))

    def test_not_asked_ones_stay(self):
        history = History(Land(["a", "b"], 9), [("make", "a", 1)])
        self.same(mended(history, ("all", None, None), {"b": []}), {"a": ("a",), "b": ()})
        self.same(misled(history, ("all", None, None), {"b": []}), [("a", 1)])

    def test_bad_table(self):
        for call in (misled, mended):
            for thing in junk():
                if thing not in ({}, {"a": ("a",)}):
                    self.refused(BadTable, thing, call, example(), ("all", None, None), thing, "no moment")
            entries = (("x",), ("a", "a"), "a", None, {}, ([],), (1,), True)
            for thing in [{"x": ()}] + [{"a": entry} for entry in entries]:
                self.refused(BadTable, thing, call, example(), ("all", None, None), thing)


class Lots(Asking):
    """[6.9] and [6.10]."""

    def test_one_lot_stays_one(self):
        for naive, history in random_histories(67, 60, 6):
            for policy in ("all", "first"):
                lots = {}
                for holder in holders(history, None):
                    lots.setdefault((holder[0], due(history, holder, policy)), []).append(holder)
                for deed in deeds_now(history, [1, 2]) + [("wait", 1)]:
                    if deed[0] in ("make", "grow", "move", "swap", "pour", "wait"):
                        later = history.then(deed)
                        for lot in lots.values():
                            self.assertEqual(len({due(later, holder, policy) for holder in lot}), 1)

    def test_what_breaks_it(self):
        for naive, history in random_histories(68, 80, 6):
            for policy in ("all", "first"):
                for life in (None, 0, 1, 3):
                    promise = (policy, None, life)
                    if not keeps(history, promise):
                        continue
                    for deed in deeds_now(history, [0, 1, 2]) + [("wait", 1), ("wait", 3)]:
                        later = history.then(deed)
                        # Ages stay, but for one who learned it now, ahead of a wait.
                        served = [h for h in holders(history, life)]
                        kept = keeps(later, promise)
                        if deed[0] in ("grow", "pour", "wait"):
                            self.assertIs(kept, True)
                        elif deed[0] == "make":
                            self.assertIs(kept, not [h for h in served if h[0] == deed[1]])
                        elif deed[0] == "move":
                            there = [h for h in served if h[0] == deed[2]]
                            due_a = all(due(history, h, policy) == (deed[1],) for h in there)
                            self.assertIs(kept, due_a)
                        elif deed[0] == "swap" or (deed[0] == "cut" and policy == "all"):
                            self.assertIs(kept, False)


if __name__ == "__main__":
    unittest.main()
