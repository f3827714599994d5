import random
import unittest

from oldaddress.errors import BadHolder, BadLand, BadLife, BadMoment, BadPromise, BadState, CannotBeDone
from oldaddress.histories import History, deeds_now
from oldaddress.lands import Land
from oldaddress.promises import keeps, table
from oldaddress.states import is_state, next_state, places, state, table_by
from tests.asking import Asking, example
from tests.naive import all_histories, junk, met_states, promises, random_histories

LIVES = (None, 0, 1, 2, 3, 5)
SMALL = Land(["a", "b"], 2)
CUT = ((1, 1), ((((("a", 0, 0),), 0), ((("a", 0, 0), ("b", 0, 0)), 0)), (((("b", 0, 0),), 0),)))


def as_lists(thing):
    return [as_lists(part) for part in thing] if isinstance(thing, tuple) else thing


class Places(Asking):
    def test_piece_by_piece(self):
        joined = 0
        for naive, history in random_histories(341, 120):
            for moment in range(naive.now + 1):
                for holder in naive.holders(None, moment):
                    told = places(history, holder, moment)
                    self.same(told, naive.places(holder, moment))
                    joined += any(first < last for _, first, last in told)
                    for ahead, behind in zip(told, told[1:]):
                        self.assertFalse(ahead[0] == behind[0] and ahead[2] + 1 == behind[1])
            for holder in naive.holders(None, naive.now):
                self.same(places(history=history, holder=list(holder)), naive.places(holder, naive.now))
        self.assertGreater(joined, 100)

    def test_example(self):
        history = example()
        self.same(places(history, ("a", 1)), [("b", 1, 2), ("b", 0, 0)])
        self.same(places(history, ("b", 4)), [("b", 0, 2)])
        self.same(places(history, ("a", 1), 4), [("b", 3, 4), ("b", 0, 2)])

    def test_nothing_lives(self):
        history = History(Land(["a", "b"], 3), [("make", "a", 2), ("end", "a"), ("make", "a", 1)])
        self.same(places(history, ("a", 1)), [])
        self.same(places(history, ("a", 1), 1), [("a", 0, 1)])

    def test_neighbours_that_go_on_are_one(self):
        deeds = [("make", "a", 5), ("drop", "a", 1, 2)]
        self.same(places(History(Land(["a", "b"], 9), deeds), ("a", 1)), [("a", 0, 2)])
        deeds = [("make", "a", 2), ("cut", "a", 1, "b"), ("pour", "b", "a"), ("grow", "a", 10 ** 12)]
        self.same(places(History(Land(["a", "b"], 10 ** 15), deeds), ("a", 4)), [("a", 0, 10 ** 12 + 1)])

    def test_errors_in_their_order(self):
        history = example()
        for thing in junk():
            if thing != ["a", 1]:
                self.refused(BadHolder, thing, places, history, thing, "x")
        for thing in (-1, 7, True, "1", [1], {}, 1):
            self.refused(BadMoment, thing, places, history, ("a", 2), thing)


class States(Asking):
    def test_piece_by_piece(self):
        for naive, history in random_histories(342, 150):
            for life in LIVES:
                self.same(state(history, life), naive.state(life))

    def test_own_row_is_known(self):
        for naive, history in random_histories(343, 80):
            for life in LIVES:
                counts, known = state(history=history, life=life)
                for address, size, pairs in zip(naive.addresses, counts, known):
                    if size:
                        self.assertIn((((address, 0, size - 1),), None if life is None else 0), pairs)
                    self.assertEqual(pairs, tuple(sorted(pairs, key=lambda pair: pair[0])))

    def test_example(self):
        history = History(SMALL, [("make", "a", 1 + 1), ("cut", "a", 1, "b")])
        self.same(state(history, 1), CUT)
        older = next_state(SMALL, 1, CUT, ("wait", 1))
        self.same(older[1][0], (((("a", 0, 0),), 0), ((("a", 0, 0), ("b", 0, 0)), 1)))
        self.same(next_state(SMALL, 1, older, ("wait", 1))[1][0], (((("a", 0, 0),), 0),))
        self.same(next_state(SMALL, 1, CUT, ("wait", 2)), next_state(SMALL, 1, older, ("wait", 1)))
        self.assertIsNone(table_by(SMALL, ("all", None, 1), CUT))
        self.same(table_by(land=SMALL, promise=["first", None, 1], state=as_lists(CUT)), {"a": ("a",), "b": ("b",)})
        self.same(table_by(SMALL, ("all", 2, 1), CUT), {"a": ("a", "b"), "b": ("b",)})

    def test_behind_more_than_a_life_of_waiting(self):
        for naive, history in random_histories(344, 80):
            for life in (0, 1, 2, 4):
                counts, known = state(history.then(("wait", life + 1)), life)
                fresh = [(address, size) for address, size in zip(naive.addresses, counts)]
                expected = [((((a, 0, size - 1),), 0),) if size else () for a, size in fresh]
                self.same(known, tuple(expected))

    def test_great_numbers(self):
        n = 10 ** 12
        deeds = [("make", "a", n), ("wait", n), ("cut", "a", n // 2, "b"), ("wait", n), ("drop", "b", 3, 5)]
        history = History(Land(["a", "b"], 10 ** 15), deeds)
        known = state(history, n - 1)[1]
        self.same(known[0], (((("a", 0, n // 2 - 1),), 0),))
        known = state(history, n)[1]
        self.same(known[0][1], ((("a", 0, n // 2 - 1), ("b", 0, n // 2 - 6)), n))

    def test_errors(self):
        for thing in (-1, True, False, "1", [1], {}):
            self.refused(BadLife, thing, state, example(), thing)


class NextStates(Asking):
    def check(self, naive, history, lives):
        deeds = deeds_now(history, [0, 1, 2, 3]) + [("wait", 1), ("wait", 2), ("wait", 7)]
        for life in lives:
            told = state(history, life)
            for deed in deeds:
                later = next_state(history.land(), life, told, deed)
                self.same(later, naive.then(deed).state(life))
                self.same(later, state(history.then(deed), life))

    def test_random_ones(self):
        for naive, history in random_histories(345, 40):
            self.check(naive, history, (None, 0, 2))

    def test_all_small_ones(self):
        for naive, history in all_histories(["b", "a"], 2, 2):
            self.check(naive, history, (None, 0, 1))

    def test_all_states_by_all_steps(self):
        for addresses, most, life in ((["a", "b"], 1, 1), (["a", "b"], 2, 0), (["a", "b", "c"], 1, None)):
            land = Land(addresses, most)
            for told, naive in met_states(addresses, most, life).items():
                self.assertIs(is_state(land, life, told), True)
                for deed in naive.small_steps():
                    self.same(next_state(land, life, as_lists(told), list(deed)), naive.then(deed).state(life))

    def test_rows_that_come_alike(self):
        deeds = [("make", "a", 2), ("wait", 2), ("grow", "a", 1), ("wait", 1)]
        history = History(Land(["a", "b"], 3), deeds)
        self.same(state(history, 5)[1][0], (((("a", 0, 1),), 1), ((("a", 0, 2),), 0)))
        behind = next_state(history.land(), 5, state(history, 5), ("drop", "a", 2, 1))
        self.same(behind, ((2, 0), ((((("a", 0, 1),), 0),), ())))
        ended = next_state(history.land(), 5, state(history, 5), ("end", "a"))
        self.same(ended, ((0, 0), ((((), 0),), ())))
        self.same(next_state(history.land(), 5, ended, ("wait", 5))[1][0], (((), 5),))
        self.same(next_state(history.land(), 5, ended, ("wait", 6))[1][0], ())

    def test_without_a_life_nobody_ages(self):
        told = state(example(), None)
        self.same(next_state(example().land(), None, told, ("wait", 10 ** 12)), told)

    def test_cannot_be_done(self):
        for thing in junk() + [("make", "a", 1), ("grow", "a", 1), ("move", "a", "b"), ("cut", "a", 1, "b"), ("end", "c")]:
            self.refused(CannotBeDone, thing, next_state, SMALL, 1, CUT, thing)

    def test_errors_in_their_order(self):
        for thing in junk():
            if not isinstance(thing, Land):
                self.refused(BadLand, thing, next_state, thing, "x", "x", "x")
                self.refused(BadLand, thing, is_state, thing, "x", "x")
                self.refused(BadLand, thing, table_by, thing, "x", "x")
            self.refused(BadState, thing, next_state, SMALL, 1, thing, "x")
            self.refused(BadPromise, thing, table_by, SMALL, thing, "x")
            self.refused(BadState, thing, table_by, SMALL, ("all", 1, 1), thing)
        for thing in (-1, True, False, "1", [1], {}):
            self.refused(BadLife, thing, next_state, SMALL, thing, "x", "x")
            self.refused(BadLife, thing, is_state, SMALL, thing, "x")
        self.refused(BadState, CUT, table_by, SMALL, ("all", 1, None), CUT)


class Shape(Asking):
    def test_states_of_histories_have_it(self):
        for naive, history in random_histories(346, 80):
            for life in LIVES:
                told = state(history, life)
                self.assertIs(is_state(history.land(), life, told), True)
                self.assertIs(is_state(land=history.land(), life=life, thing=as_lists(told)), True)
                other = Land(["a", "c"], 3)
                self.assertIs(is_state(other, life, told), self.has_shape(other, life, told))

    def test_any_object(self):
        for life in LIVES:
            for thing in junk():
                self.assertIs(is_state(SMALL, life, thing), False)

    def test_parts_that_are_none(self):
        """Each part of a state in turn is made another object."""
        def changed(thing, other):
            yield other
            if isinstance(thing, (list, tuple)):
                for index, part in enumerate(thing):
                    for new in changed(part, other):
                        yield list(thing[:index]) + [new] + list(thing[index + 1:])

        right = as_lists(CUT)
        for other in junk():
            for thing in changed(right, other):
                self.assertIs(is_state(SMALL, 1, thing), self.has_shape(SMALL, 1, thing))

    def has_shape(self, land, life, thing):
        """The words of [8.3] in turn."""
        number = lambda x: isinstance(x, int) and not isinstance(x, bool) and x >= 0
        row = lambda x: isinstance(x, (list, tuple))
        names = land.addresses()
        if not row(thing) or len(thing) != 2 or not all(row(part) and len(part) == len(names) for part in thing):
            return False
        counts, known = thing
        if not all(map(number, counts)) or sum(counts) > land.most():
            return False
        for name, count, pairs in zip(names, counts, known):
            if not row(pairs) or not all(row(pair) and len(pair) == 2 for pair in pairs):
                return False
            rows = []
            for places_, age in pairs:
                if not row(places_) or not all(row(place) and len(place) == 3 for place in places_):
                    return False
                pieces = []
                for address, first, last in places_:
                    if not isinstance(address, str) or address not in names or not number(first) or not number(last):
                        return False
                    if first > last or last >= counts[names.index(address)]:
                        return False
                    if pieces and pieces[-1] == (address, first - 1):
                        return False
                    pieces += [(address, index) for index in range(first, last + 1)]
                if len(set(pieces)) < len(pieces):
                    return False
                if (age is not None) if life is None else (not number(age) or age > life):
                    return False
                rows.append((tuple(map(tuple, places_)), age))
            unlike = [places_ for places_, _ in rows]
            if unlike != sorted(set(unlike)):
                return False
            if count and (((name, 0, count - 1),), None if life is None else 0) not in rows:
                return False
        return True

    def test_shapes_by_chance(self):
        rng = random.Random(347)
        found = {True: 0, False: 0}
        for _ in range(4000):
            counts = [rng.randint(0, 2), rng.choice((0, 0, 1, 2))]
            known = []
            for name, count in zip("ab", counts):
                rows = [((name, 0, count - 1),)] if count else []
                for _ in range(rng.randint(0, 2)):
                    rows.append(tuple(
                        (rng.choice("ab"), rng.choice((0, 0, 1)), rng.choice((0, 0, 1))) for _ in range(rng.randint(0, 2))
                    ))
                if rng.random() < 0.8:
                    rows = sorted(set(rows))
                known.append([(row, 0 if rng.random() < 0.7 else rng.choice((1, 2, 3, None))) for row in rows])
            life = rng.choice((1, 2, None))
            if life is None:
                known = [[(row, None) for row, _ in pairs] for pairs in known]
            land = Land(["a", "b"], rng.choice((2, 3, 4)))
            told = is_state(land, life, (counts, known))
            self.assertIs(told, self.has_shape(land, life, (counts, known)))
            found[told] += 1
        self.assertGreater(min(found.values()), 300)

    def test_edges(self):
        land = Land(["a", "b"], 4)
        own = (("a", 0, 2),)
        right = ((3, 0), (((own, 0),), ()))
        self.assertIs(is_state(land, 0, right), True)
        self.assertIs(is_state(land, None, right), False)
        self.assertIs(is_state(land, None, ((3, 0), (((own, None),), ()))), True)
        self.assertIs(is_state(Land(["a", "b"], 2), 0, right), False)
        for wrong in (
            ((3, 0), ((), ())),
            ((3, 0), (((own, 1),), ())),
            ((3, 0), ((((), 0), ((), 0), (own, 0)), ())),
            ((3, 0), (((own, 0), ((), 0)), ())),
            ((3, 0), (((own, 0),), (((("a", 0, 3),), 0),))),
            ((3, 0), (((own, 0),), (((("a", 0, 0), ("a", 1, 2)), 0),))),
            ((3, 0), (((own, 0),), (((("a", 0, 1), ("a", 1, 2)), 0),))),
            ((3, 0), (((own, 0),), (((("a", 2, 1),), 0),))),
            ((3, 0), (((own, 0),), (((("b", 0, 0),), 0),))),
            ((3, 0), (((own, 0),), (((("a", 0, 1),), 2),))),
            ((3, True), (((own, 0),), ())),
            ((3, 2), (((own, 0),), (((("b", 0, 1),), 0),))),
        ):
            self.assertIs(is_state(land, 1, wrong), False, wrong)
        others = (((), 1), ((("a", 0, 0), ("a", 2, 2)), 0), ((("a", 1, 2), ("a", 0, 0)), 1))
        self.assertIs(is_state(land, 1, ((3, 0), (((own, 0),), others))), True)


class Enough(Asking):
    def test_tables(self):
        for naive, history in random_histories(348, 60):
            for promise in promises():
                told = table_by(history.land(), promise, state(history, promise[2]))
                expected = table(history, promise)
                self.same(told, expected)
                self.assertEqual(None if told is None else list(told), None if expected is None else list(expected))

    def test_histories_with_equal_states(self):
        """Made of what is equal by chance: they can do the same, and the promise goes with the state."""
        rng = random.Random(349)
        by_state = {}
        for naive, history in all_histories(["a", "b"], 2, 4):
            for life in (None, 1):
                by_state.setdefault((life, naive.state(life)), []).append(history)
        lots = [(life, lot) for (life, _), lot in by_state.items() if len(lot) > 1]
        self.assertGreater(len(lots), 50)
        for life, lot in lots:
            one, other = rng.sample(lot, 2)
            deeds = deeds_now(one, [0, 1, 2])
            self.same(deeds, deeds_now(other, [0, 1, 2]))
            for deed in rng.sample(deeds, min(3, len(deeds))) + [("wait", 1)]:
                self.assertEqual(state(one.then(deed), life), state(other.then(deed), life))
                for policy, width in (("all", None), ("first", None), ("most", 2), ("all", 2)):
                    promise = (policy, width, life)
                    self.assertEqual(table(one.then(deed), promise), table(other.then(deed), promise))
                    self.assertIs(keeps(one.then(deed), promise), keeps(other.then(deed), promise))


if __name__ == "__main__":
    unittest.main()
