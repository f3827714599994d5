import random
import unittest
import zlib

from oldaddress.disciplines import breaking_way, careful, is_safe_lot, obeys, safe_lot, too_strict
from oldaddress.errors import BadDiscipline, BadLand, BadLife, BadPromise
from oldaddress.histories import History
from oldaddress.lands import Land
from oldaddress.promises import keeps
from oldaddress.states import state
from tests.asking import Asking, waiting
from tests.naive import Naive, junk, no_functions, random_histories, ways_of

ONE = Land(["a", "b"], 1)
PROMISE = ("first", None, 1)


def lets_all(history, deed):
    return True


def lets_nothing(history, deed):
    return False


def lets_words(*words):
    return lambda history, deed: deed[0] in words


def by_chance(seed, life, share):
    """A discipline that tells the same for equal states, but anything else."""
    def discipline(history, deed):
        return zlib.crc32(repr((seed, state(history, life), deed)).encode()) % 100 < share
    return discipline


def disciplines(promise):
    found = [lets_all, lets_nothing, lets_words("make", "move", "wait"), lets_words("make", "grow", "end", "drop")]
    found += [lets_words("make", "pour", "wait", "cut"), careful(promise)]
    return found + [by_chance(seed, promise[2], 30 + 10 * seed) for seed in range(6)]


def grounds():
    return [
        (["a", "b"], 1, PROMISE), (["b", "a"], 1, ("all", None, 0)), (["a", "b"], 2, ("all", None, 0)),
        (["b", "a"], 2, ("most", 1, 0)), (["c", "a", "b"], 1, ("first", 2, 0)),
    ]


class Search:
    """All states that are come to, looked for from way to way, each asked of the discipline once."""

    def __init__(self, addresses, most, discipline, promise):
        self.breaking = self.strict = None
        life = promise[2]
        start = Naive(addresses, most, [])
        self.met = {start.state(life): []}
        queue = [start]
        for naive in queue:
            for deed in naive.small_steps():
                later = naive.then(deed)
                told = discipline(naive.told(), deed) is True
                kept = later.keeps(promise)
                if told and not kept and self.breaking is None:
                    self.breaking = later.deeds
                if kept and not told and self.strict is None:
                    self.strict = later.deeds
                if told and kept and later.state(life) not in self.met:
                    self.met[later.state(life)] = later.deeds
                    queue.append(later)
            if len(self.met) > 150 and self.breaking and self.strict:
                return


class Obeying(Asking):
    def test_moment_by_moment(self):
        for naive, history in random_histories(401, 60):
            for seed in range(3):
                asked = []
                inner = by_chance(seed, 1, 80)

                def discipline(ahead, deed):
                    asked.append((ahead, deed))
                    return inner(ahead, deed)

                told = obeys(history, discipline)
                let = [inner(history.ahead(m), deed) for m, deed in enumerate(history.deeds())]
                expected = let.index(False) if False in let else None
                self.assertEqual(told, expected)
                many = len(let) if told is None else told + 1
                self.assertEqual(asked, [(history.ahead(m), deed) for m, deed in enumerate(history.deeds())][:many])
                for ahead, deed in asked:
                    self.assertIs(type(ahead), History)
                    self.assertIs(type(deed), tuple)

    def test_just_true(self):
        for thing in (1, "yes", [True], (1,), None, False, 0, "", lets_all, waiting()):
            self.assertEqual(obeys(waiting(), lambda history, deed: thing), 0)
            self.same(safe_lot(ONE, lambda history, deed: thing, PROMISE), [[]])
            self.assertIsNone(breaking_way(ONE, lambda history, deed: thing, PROMISE))
        self.assertIsNone(obeys(history=waiting(), discipline=lets_all))
        self.assertIsNone(obeys(History(ONE, []), lets_nothing))

    def test_what_it_raises_comes_out(self):
        def discipline(history, deed):
            raise KeyError(deed)

        for call, parts in (
            (obeys, (waiting(), discipline)), (breaking_way, (ONE, discipline, PROMISE)),
            (safe_lot, (ONE, discipline, PROMISE)), (too_strict, (ONE, discipline, PROMISE)),
            (is_safe_lot, (ONE, discipline, PROMISE, [[]])),
        ):
            with self.assertRaises(KeyError):
                call(*parts)


class Ways(Asking):
    def test_example(self):
        way = [("make", "a", 1), ("drop", "a", 0, 1), ("make", "a", 1)]
        self.same(breaking_way(land=ONE, discipline=lets_all, promise=list(PROMISE)), way)
        self.assertIsNone(safe_lot(land=ONE, discipline=lets_all, promise=PROMISE))

    def test_just_one(self):
        lots = broken = 0
        for addresses, most, promise in grounds():
            land = Land(addresses, most)
            for discipline in disciplines(promise):
                search = Search(addresses, most, discipline, promise)
                way = breaking_way(land, discipline, promise)
                lot = safe_lot(land, discipline, promise)
                self.same(way, search.breaking)
                if way is None:
                    self.same(lot, list(search.met.values()))
                    self.assertIs(is_safe_lot(land, discipline, promise, lot), True)
                    lots += 1
                else:
                    self.assertIsNone(lot)
                    self.check_way(land, discipline, promise, way)
                    broken += 1
        self.assertGreater(min(lots, broken), 15)

    def check_way(self, land, discipline, promise, way):
        history = History(land, way)
        self.assertIsNone(obeys(history, discipline))
        self.assertIs(keeps(history, promise), False)
        self.assertIs(is_safe_lot(land, discipline, promise, [way[:m] for m in range(len(way))]), False)
        self.assertIs(is_safe_lot(land, discipline, promise, [way[:m] for m in range(len(way) + 1)]), False)

    def test_no_way_is_left_out(self):
        """All ways of up to four steps, however one comes to the same by them."""
        for discipline in (lets_all, lets_words("make", "end", "move"), by_chance(3, 1, 70), by_chance(5, 1, 60)):
            expected = None
            steps = lambda naive: [d for d in naive.small_steps() if discipline(naive.told(), d) is True]
            for way, naive in ways_of(Naive(["a", "b"], 1, []), steps, 4):
                if not naive.keeps(PROMISE):
                    expected = way
                    break
            told = breaking_way(ONE, discipline, PROMISE)
            if expected is not None or (told is not None and len(told) <= 4):
                self.same(told, expected)

    def test_asked_once_for_each_step_in_order(self):
        asked = []

        def discipline(history, deed):
            asked.append((history.deeds(), deed))
            return deed[0] in ("make", "grow", "wait")

        lot = safe_lot(Land(["a", "b"], 2), discipline, ("all", None, 0))
        expected = []
        for way in lot:
            expected += [(way, deed) for deed in Naive(["a", "b"], 2, way).small_steps()]
        self.same(asked, expected)

    def test_errors_in_their_order(self):
        endless = ("all", None, None)
        for thing in junk():
            if not isinstance(thing, Land):
                for call in (breaking_way, safe_lot, too_strict):
                    self.refused(BadLand, thing, call, thing, "x", "x")
                self.refused(BadLand, thing, is_safe_lot, thing, "x", "x", [])
            self.refused(BadPromise, thing, careful, thing)
            for call in (breaking_way, safe_lot, too_strict):
                self.refused(BadPromise, thing, call, ONE, lets_all, thing)
            self.refused(BadPromise, thing, is_safe_lot, ONE, lets_all, thing, [])
        for thing in no_functions():
            self.refused(BadDiscipline, thing, obeys, waiting(), thing)
            for call in (breaking_way, safe_lot, too_strict):
                self.refused(BadDiscipline, thing, call, ONE, thing, "x")
            self.refused(BadDiscipline, thing, is_safe_lot, ONE, thing, "x", [])
        for call in (breaking_way, safe_lot, too_strict):
            self.refused(BadLife, None, call, ONE, lets_all, endless)
        self.refused(BadLife, None, is_safe_lot, ONE, lets_all, endless, [])


class SafeLots(Asking):
    land = Land(["a", "b"], 2)
    promise = ("all", None, 0)

    def lot(self):
        discipline = lambda history, deed: deed[0] in ("make", "grow", "wait") and deed[-1] == 1
        return discipline, safe_lot(self.land, discipline, self.promise)

    def test_what_is_none(self):
        discipline, lot = self.lot()
        self.assertGreater(len(lot), 5)
        told = lambda thing: is_safe_lot(self.land, discipline, self.promise, thing)
        self.assertIs(is_safe_lot(land=self.land, discipline=discipline, promise=list(self.promise), thing=lot[::-1]), True)
        self.assertIs(told(tuple(tuple(map(list, way)) for way in lot)), True)
        for index in range(len(lot)):
            self.assertIs(told(lot[:index] + lot[index + 1:]), False)
            self.assertIs(told(lot + [lot[index]]), True)
        self.assertIs(told(lot + [[("make", "a", 1), ("wait", 1), ("wait", 1)]]), True)
        for way in (
            [("make", "a", 1), ("wait", 2)], [("make", "a", 2)], [("make", "a", 1), ("end", "a")], [("move", "a", "b")],
            [("make", "a", 1), ("make", "a", 1)], [("wait", 1), ("wait", 1), ("make", "c", 1)],
        ):
            self.assertIs(told(lot + [way]), False)

    def test_other_ways_to_the_same_states(self):
        discipline, lot = self.lot()
        other = [way + [("wait", 1)] * 2 for way in lot]
        expected = {state(History(self.land, way), 0) for way in lot}
        met = {state(History(self.land, way), 0) for way in other}
        self.assertIs(is_safe_lot(self.land, discipline, self.promise, [[]] + other), met >= expected)

    def test_kept_behind_each(self):
        """Where [] is left out, or a way breaks the promise, it is no safe lot however closed."""
        lot = safe_lot(ONE, careful(PROMISE), PROMISE)
        self.assertIs(is_safe_lot(ONE, careful(PROMISE), PROMISE, lot), True)
        self.assertIs(is_safe_lot(ONE, careful(PROMISE), PROMISE, lot[1:]), False)
        self.assertIs(is_safe_lot(ONE, lets_all, PROMISE, lot), False)
        self.assertIs(is_safe_lot(ONE, lets_nothing, PROMISE, [[]]), True)
        self.assertIs(is_safe_lot(ONE, lets_nothing, PROMISE, []), False)
        self.assertIs(is_safe_lot(ONE, lets_nothing, PROMISE, [[], [("wait", 1)]]), False)

    def test_waits_are_of_one_day(self):
        waits = lets_words("wait")
        self.assertIs(is_safe_lot(ONE, waits, PROMISE, [[("wait", 1)], []]), True)
        self.assertIs(is_safe_lot(ONE, waits, PROMISE, [[], [("wait", 2)]]), False)
        self.assertIs(is_safe_lot(ONE, waits, PROMISE, [[], [("wait", 1), ("wait", 1), ("wait", 3)]]), False)

    def test_any_object(self):
        discipline, lot = self.lot()
        for thing in junk():
            self.assertIs(is_safe_lot(self.land, discipline, self.promise, thing), False)
            self.assertIs(is_safe_lot(self.land, discipline, self.promise, lot + [thing]), thing in ([], ()))
            self.assertIs(is_safe_lot(self.land, discipline, self.promise, lot + [[thing]]), False)
        self.assertIs(is_safe_lot(self.land, lets_nothing, self.promise, [()]), True)


class Careful(Asking):
    def test_lets_just_what_keeps(self):
        for naive, history in random_histories(402, 40, 6):
            for promise in (("all", None, None), ["first", 1, 1], ("most", 2, 0)):
                discipline = careful(promise=promise)
                for deed in naive.small_steps():
                    self.assertIs(discipline(history, deed), naive.then(deed).keeps(promise))

    def test_later_changes_of_the_promise(self):
        promise = ["all", None, 0]
        discipline = careful(promise)
        promise[0] = "none"
        self.assertIs(discipline(History(ONE, []), ("make", "a", 1)), True)

    def test_never_broken_and_never_stuck(self):
        for addresses, most, promise in grounds():
            if most > 1 and promise[1] is not None:
                continue
            land = Land(addresses, most)
            discipline = careful(promise)
            self.assertIsNone(breaking_way(land, discipline, promise))
            self.assertIsNone(too_strict(land, discipline, promise))
            for way in safe_lot(land, discipline, promise):
                self.assertIs(discipline(History(land, way), ("wait", 1)), True)


class TooStrict(Asking):
    def test_first_shortest(self):
        told, none = 0, 0
        for addresses, most, promise in grounds():
            for discipline in disciplines(promise):
                search = Search(addresses, most, discipline, promise)
                way = too_strict(Land(addresses, most), discipline, promise)
                self.same(way, search.strict)
                told += way is not None and len(way) > 1
                none += way is None
        self.assertGreater(told, 10)
        self.assertGreater(none, 4)

    def test_ways_go_on_only_where_the_promise_is_kept(self):
        rash = lambda history, deed: deed[0] in ("make", "end") or careful(PROMISE)(history, deed)
        self.assertIsNone(too_strict(land=ONE, discipline=rash, promise=list(PROMISE)))
        self.assertIsNotNone(breaking_way(ONE, rash, PROMISE))
        self.same(too_strict(ONE, lets_nothing, PROMISE), [("make", "a", 1)])

    def test_all_ways(self):
        rng = random.Random(403)
        for seed in rng.sample(range(100), 12):
            discipline = by_chance(seed, 1, 85)
            expected = None
            steps = lambda naive: [
                d for d in naive.small_steps() if discipline(naive.told(), d) is True and naive.then(d).keeps(PROMISE)
            ]
            for way, naive in ways_of(Naive(["a", "b"], 1, []), steps, 3):
                strict = [d for d in naive.small_steps() if naive.then(d).keeps(PROMISE) and not discipline(naive.told(), d)]
                if strict:
                    expected = way + strict[:1]
                    break
            told = too_strict(ONE, discipline, PROMISE)
            if expected is not None or (told is not None and len(told) <= 4):
                self.same(told, expected)


if __name__ == "__main__":
    unittest.main()
