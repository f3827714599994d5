import random
import unittest

from oldaddress.desks import Desk
from oldaddress.errors import BadLand, BadNumbers, BadPromise, CannotBeDone, NoAddress
from oldaddress.histories import History, deeds_now
from oldaddress.lands import Land
from oldaddress.promises import clash, keeps, table
from oldaddress.refusals import BadNumber, BadOrder, Broken, IsWatched, NotWatched, WouldBreak
from tests.asking import Asking
from tests.naive import junk, promises, random_deeds

ALL = ("all", None, 1)
FIRST = ("first", None, None)


def desk_of(orders, land=None):
    desk = Desk(land or Land(["a", "b"], 9))
    for order in orders:
        desk.give(order)
    return desk


def example():
    return desk_of([("do", ("make", "a", 1)), ("hold", ALL), ("do", ("move", "a", "b"))])


def whole(desk):
    """All that one can see of a desk, what can be carried out again, too."""
    other = desk.copy()
    again = []
    while (order := other.redo()) is not None:
        again.append(order)
    return (desk.history().deeds(), desk.watched(), desk.orders(), desk.count(), again)


class NaiveDesk:
    """A desk that does all its orders anew each time."""

    def __init__(self, land, orders=(), again=()):
        self.land, self.orders, self.again = land, list(orders), list(again)

    def state(self, orders):
        history, watched = History(self.land, []), []
        for word, thing in orders:
            if word == "do":
                history = History(self.land, history.deeds() + [thing])
            elif word == "leave":
                watched = [pair for pair in watched if pair[0] != thing]
            else:
                if thing not in [promise for promise, _ in watched]:
                    watched.append((thing, False))
                held = {"watch": False, "hold": True, "free": False}[word]
                watched = [(p, held if p == thing else h) for p, h in watched]
        return history, watched

    def refusal(self, word, thing):
        history, watched = self.state(self.orders)
        held = dict(watched)
        if word == "watch":
            return IsWatched if thing in held else None
        if word == "hold":
            return IsWatched if held.get(thing) else None if keeps(history, thing) else Broken
        if word == "free":
            return None if held.get(thing) else NotWatched
        if word == "leave":
            return None if thing in held else NotWatched
        return None

    def changes(self, word, thing):
        if word != "do":
            return [], None
        history, watched = self.state(self.orders)
        later = history.then(thing)
        changed = [(p, keeps(later, p)) for p, _ in watched if keeps(later, p) != keeps(history, p)]
        broken = [p for p, held in watched if held and not keeps(later, p)]
        return changed, broken[0] if broken else None


class Example(Asking):
    def test_example(self):
        desk = example()
        with self.assertRaises(WouldBreak) as caught:
            desk.give(("do", ("make", "a", 1)))
        self.same(caught.exception.promise, ("all", None, 1))
        self.assertEqual(desk.days_for(deed=("make", "a", 1)), 2)
        self.same(desk.tells("a", ("all", None, 1)), ("b",))
        self.assertEqual(desk.count(), 3)


class Begin(Asking):
    def test_begins_with_nothing(self):
        land = Land(["a", "b"], 3)
        desk = Desk(land=land)
        self.assertTrue(desk.history() == History(land, []))
        self.same([desk.watched(), desk.orders(), desk.count()], [[], [], 0])
        self.assertIsNone(desk.undo())
        self.assertIsNone(desk.redo())

    def test_bad_land(self):
        for thing in junk():
            if not isinstance(thing, Land):
                self.refused(BadLand, thing, Desk, thing)


class Orders(Asking):
    def test_do(self):
        desk = desk_of([("watch", ("all", None, 0)), ("watch", FIRST), ("watch", ("all", 2, 3))])
        self.same(desk.give(["do", ["make", "a", 2]]), [])
        self.same(desk.give(order=("do", ("cut", "a", 1, "b"))), [(("all", None, 0), False)])
        self.same(desk.give(("do", ("wait", 1))), [(("all", None, 0), True)])
        self.same(desk.give(("do", ("end", "a"))), [(FIRST, False), (("all", 2, 3), False)])
        self.same(desk.orders()[3:], [
            ("do", ("make", "a", 2)), ("do", ("cut", "a", 1, "b")), ("do", ("wait", 1)), ("do", ("end", "a")),
        ])

    def test_watch_hold_free_leave(self):
        desk = desk_of([("watch", ["first", None, None]), ("hold", ALL), ("watch", ("most", 1, 2))])
        self.same(desk.watched(), [(FIRST, False, True), (ALL, True, True), (("most", 1, 2), False, True)])
        self.same(desk.give(("hold", FIRST)), [])
        self.same(desk.give(["free", list(ALL)]), [])
        self.same(desk.watched(), [(FIRST, True, True), (ALL, False, True), (("most", 1, 2), False, True)])
        self.same(desk.give(("leave", FIRST)), [])
        self.same(desk.watched(), [(ALL, False, True), (("most", 1, 2), False, True)])
        self.same(desk.give(("hold", FIRST)), [])
        self.same(desk.watched(), [(ALL, False, True), (("most", 1, 2), False, True), (FIRST, True, True)])
        self.same(desk.orders()[-1], ("hold", FIRST))
        self.same(desk.orders()[4], ("free", ALL))

    def test_watched_ones_may_be_broken(self):
        desk = desk_of([("do", ("make", "a", 1)), ("watch", ALL), ("do", ("end", "a")), ("do", ("make", "a", 1))])
        self.same(desk.watched(), [(ALL, False, False)])
        desk.give(("watch", FIRST))
        self.same(desk.watched(), [(ALL, False, False), (FIRST, False, False)])

    def refuses(self, desk, error, thing, order):
        before = whole(desk)
        self.refused(error, thing, desk.give, order)
        self.refused(error, thing, desk.would, order)
        self.assertEqual(whole(desk), before)

    def test_bad_order(self):
        desk = example()
        for thing in junk() + [
            ("do",), ("do", ("end", "b"), 1), ("undo", ALL), (["do"], ("end", "b")), ("DO", ("end", "b")), {"do": 1},
            "do", ("", ALL), (None, ALL), (True, ALL),
        ]:
            self.refuses(desk, BadOrder, thing, thing)

    def test_the_very_objects(self):
        desk = desk_of([("do", ("make", "a", 1)), ("hold", ALL), ("watch", FIRST)])
        for thing in junk():
            if thing != ["wait", 1]:
                self.refuses(desk, CannotBeDone, thing, ("do", thing))
            for word in ("watch", "hold", "free", "leave"):
                self.refuses(desk, BadPromise, thing, [word, thing])
        for order, error in [
            (("watch", ["all", None, 1]), IsWatched), (("hold", ["all", None, 1]), IsWatched),
            (("watch", ["first", None, None]), IsWatched), (("free", ["first", None, None]), NotWatched),
            (("free", ["most", 1, 1]), NotWatched), (("leave", ["most", 1, 1]), NotWatched),
        ]:
            self.refuses(desk, error, order[1], order)

    def test_broken(self):
        desk = desk_of([("do", ("make", "a", 1)), ("do", ("end", "a")), ("do", ("make", "a", 1)), ("watch", FIRST)])
        for thing in (["all", None, 0], ["first", None, None]):
            self.refuses(desk, Broken, thing, ("hold", thing))
        desk.give(("do", ("wait", 1)))
        self.same(desk.give(("hold", ["all", None, 0])), [])

    def test_would_break_is_the_first_held_one(self):
        desk = desk_of([("do", ("make", "a", 1)), ("watch", ("all", 3, 0)), ("hold", FIRST), ("hold", ALL)])
        for order in (("do", ("end", "a")), ["do", ["drop", "a", 0, 1]]):
            self.same(desk.give(("do", ("wait", 1))), [])
            self.assertEqual(desk.give(order), [])
            desk.undo()
            desk.undo()
        desk.give(("do", ("move", "a", "b")))
        before = whole(desk)
        for order in (("do", ("make", "a", 1)), ["do", ["make", "a", 3]]):
            with self.assertRaises(WouldBreak) as caught:
                desk.give(order)
            self.same(caught.exception.promise, FIRST)
            self.same(desk.would(order), self.changed(desk, order))
        self.assertEqual(whole(desk), before)
        desk.give(("free", FIRST))
        with self.assertRaises(WouldBreak) as caught:
            desk.give(("do", ("make", "a", 1)))
        self.same(caught.exception.promise, ALL)

    def changed(self, desk, order):
        later = desk.history().then(order[1])
        return [(p, keeps(later, p)) for p, _, holds in desk.watched() if keeps(later, p) != holds]


class Walks(Asking):
    """Many orders, one behind another, against a desk that does all anew."""

    def test_at_random(self):
        rng = random.Random(101)
        for _ in range(60):
            land = Land(["c", "a", "b"][:rng.choice((2, 3))], rng.randint(1, 4))
            desk, naive = Desk(land), NaiveDesk(land)
            for _ in range(30):
                self.step(rng, desk, naive)
                history, watched = naive.state(naive.orders)
                self.assertTrue(desk.history() == history)
                self.same(desk.watched(), [(p, held, keeps(history, p)) for p, held in watched])
                self.same(desk.orders(), naive.orders)
                self.assertEqual(desk.count(), len(naive.orders))

    def step(self, rng, desk, naive):
        chance = rng.random()
        if chance < 0.15:
            told = desk.undo()
            self.same(told, naive.orders[-1] if naive.orders else None)
            naive.again += naive.orders[-1:]
            del naive.orders[-1:]
        elif chance < 0.25:
            told = desk.redo()
            self.same(told, naive.again[-1] if naive.again else None)
            naive.orders += naive.again[-1:]
            del naive.again[-1:]
        elif chance < 0.3:
            number = rng.randint(0, desk.count())
            other = desk.at(number)
            self.same(other.orders(), naive.orders[:number])
            self.assertIsNone(other.redo())
            history, watched = naive.state(naive.orders[:number])
            self.same(other.watched(), [(p, held, keeps(history, p)) for p, held in watched])
        else:
            self.order(rng, desk, naive)

    def order(self, rng, desk, naive):
        word = rng.choice(("do", "do", "do", "watch", "hold", "hold", "free", "leave"))
        thing = rng.choice([("all", None, 1), ("first", None, 0), ("most", 2, None), ("all", 2, 2)])
        if word == "do":
            thing = rng.choice(deeds_now(desk.history(), [0, 1, 2]) + [("wait", rng.randint(1, 2))] * 3)
        refusal = naive.refusal(word, thing)
        if refusal is not None:
            self.refused(refusal, thing, desk.give, (word, thing))
            self.refused(refusal, thing, desk.would, (word, thing))
            return
        changed, broken = naive.changes(word, thing)
        self.same(desk.would((word, thing)), changed)
        if broken is not None:
            with self.assertRaises(WouldBreak) as caught:
                desk.give([word, thing])
            self.same(caught.exception.promise, broken)
        else:
            self.same(desk.give([word, list(thing)]), changed)
            naive.orders.append((word, thing))
            naive.again = []


class Ahead(Asking):
    def desks(self, seed, count):
        rng = random.Random(seed)
        for _ in range(count):
            addresses = ["b", "a", "c"][:rng.choice((2, 3))]
            most = rng.randint(1, 4)
            desk = Desk(Land(addresses, most))
            for deed in random_deeds(rng, addresses, most, rng.randint(1, 8)):
                desk.give(("do", deed))
            for promise in rng.sample(promises(), 12):
                if keeps(desk.history(), promise):
                    desk.give(("hold" if rng.random() < 0.5 else "watch", promise))
            yield desk

    def test_may(self):
        for desk in self.desks(102, 60):
            history = desk.history()
            held = [promise for promise, is_held, _ in desk.watched() if is_held]
            expected = [
                deed for deed in deeds_now(history, [2, 1, 0])
                if all(keeps(history.then(deed), promise) for promise in held)
            ]
            self.same(desk.may([2, 1, 0]), expected)
            self.same(desk.may(numbers=(2, 1, 0, 1)), expected)
        for numbers, index in (("1", 0), ([1, -1], 1), (None, 0), ([True], 0)):
            self.refused(BadNumbers, index, example().may, numbers)

    def test_days_for(self):
        for desk in self.desks(103, 50):
            history = desk.history()
            held = [promise for promise, is_held, _ in desk.watched() if is_held]
            most = max([promise[2] or 0 for promise in held], default=0) + 2
            for deed in deeds_now(history, [0, 1, 2]) + [("wait", 1), ("wait", 3)]:
                good = []
                for days in range(most + 2):
                    later = history.then(("wait", days)) if days else history
                    good.append(all(keeps(later.then(deed), promise) for promise in held))
                told = desk.days_for(deed)
                self.assertEqual(told, good.index(True) if True in good else None)
                self.assertTrue(told is None or told <= most - 1)
                if deed[0] == "wait":
                    self.assertEqual(told, 0)

    def test_days_can_always_go_by(self):
        for desk in self.desks(105, 30):
            without = [promise for promise, is_held, _ in desk.watched() if is_held and promise[2] is None]
            barred = {
                deed for deed in deeds_now(desk.history(), [0, 1, 2])
                if not all(keeps(desk.history().then(deed), promise) for promise in without)
            }
            for days in (1, 2, 10 ** 12):
                desk.give(("do", ("wait", days)))
                self.assertFalse(barred & set(desk.may([0, 1, 2])))

    def test_days_for_without_a_life_and_great_lives(self):
        desk = desk_of([("do", ("make", "a", 1)), ("do", ("wait", 2)), ("do", ("move", "a", "b"))])
        desk.give(("hold", ("all", None, 10 ** 12)))
        self.assertEqual(desk.days_for(["make", "a", 1]), 10 ** 12 + 1)
        desk.give(("hold", ("all", None, None)))
        self.assertIsNone(desk.days_for(("make", "a", 1)))
        self.assertEqual(desk.days_for(("grow", "b", 1)), 0)
        for thing in junk() + [("make", "b", 1), ("make", "a", 9)]:
            if thing != ["wait", 1]:
                self.refused(CannotBeDone, thing, desk.days_for, thing)
                if thing != ("make", "b", 1):
                    self.refused(CannotBeDone, thing, Desk(Land(["b", "a"], 1)).days_for, thing)


class Visitors(Asking):
    def test_tells_and_quarrel(self):
        for desk in Ahead.desks(self, 104, 40):
            history = desk.history()
            for promise in promises():
                told = table(history, promise)
                self.same(desk.quarrel(promise), clash(history, promise))
                for address in history.land().addresses():
                    expected = None if told is None else told.get(address, ())
                    self.same(desk.tells(address, list(promise)), expected)

    def test_errors_in_their_order(self):
        desk = example()
        self.same(desk.tells(address="a", promise=("all", None, 0)), ("b",))
        self.same(desk_of([("do", ("make", "a", 1)), ("do", ("wait", 1))]).tells("b", ALL), ())
        self.assertIsNone(desk.quarrel(promise=ALL))
        for thing in junk():
            if thing != "a":
                self.refused(NoAddress, thing, desk.tells, thing, "x")
            self.refused(BadPromise, thing, desk.tells, "a", thing)
            self.refused(BadPromise, thing, desk.quarrel, thing)


class Back(Asking):
    def test_undo_and_redo(self):
        desk = example()
        self.same(desk.undo(), ("do", ("move", "a", "b")))
        self.same(desk.undo(), ("hold", ALL))
        self.same(desk.watched(), [])
        self.same(desk.redo(), ("hold", ALL))
        self.same(desk.watched(), [(ALL, True, True)])
        self.same(desk.redo(), ("do", ("move", "a", "b")))
        self.assertIsNone(desk.redo())
        self.assertTrue(desk == example())

    def test_a_new_order_ends_what_could_be_carried_out_again(self):
        desk = example()
        desk.undo()
        for order in (("do", ("end", "b")), ("hold", ALL), ("free", FIRST), ("watch", None), "x"):
            with self.assertRaises(ValueError):
                desk.give(order)
        desk.would(("do", ("wait", 1)))
        self.same(desk.redo(), ("do", ("move", "a", "b")))
        desk.undo()
        desk.give(("do", ("wait", 1)))
        self.assertIsNone(desk.redo())

    def test_orders_are_the_callers(self):
        desk = example()
        desk.orders().clear()
        desk.watched().clear()
        deed = ["make", "a", 1]
        other = desk_of([["do", deed]])
        deed[1] = "b"
        self.same(other.orders(), [("do", ("make", "a", 1))])
        self.assertEqual([desk.count(), len(desk.watched())], [3, 1])


class Others(Asking):
    def test_at(self):
        desk = example()
        desk.undo()
        other = desk.at(number=1)
        self.same(whole(other), ([("make", "a", 1)], [], [("do", ("make", "a", 1))], 1, []))
        other.give(("do", ("end", "a")))
        self.assertEqual([desk.count(), other.count(), desk.at(0).count()], [2, 2, 0])
        self.assertTrue(desk.at(0) == Desk(Land(["a", "b"], 9)))
        for thing in junk() + [3, -1]:
            if type(thing) is not int or not 0 <= thing <= 2:
                self.refused(BadNumber, thing, desk.at, thing)

    def test_copy(self):
        desk = example()
        desk.undo()
        other = desk.copy()
        self.assertEqual(whole(other), whole(desk))
        other.redo()
        other.give(("free", ALL))
        self.assertEqual([desk.count(), other.count()], [2, 4])
        self.same(desk.redo(), ("do", ("move", "a", "b")))
        self.assertIsNone(other.redo())

    def test_equal(self):
        self.assertTrue(example() == example())
        one = desk_of([("watch", ALL), ("watch", FIRST)])
        self.assertTrue(one == desk_of([("watch", FIRST), ("watch", ALL), ("leave", FIRST), ("watch", FIRST)]))
        self.assertFalse(one != desk_of([("watch", ALL), ("watch", FIRST)]))
        self.assertTrue(desk_of([("watch", ALL), ("hold", ALL)]) == desk_of([("hold", ALL)]))
        self.assertTrue(desk_of([("hold", ALL), ("free", ALL)]) == desk_of([("watch", ALL)]))
        self.assertTrue(desk_of([("hold", ALL), ("watch", FIRST), ("leave", ALL)]) == desk_of([("watch", FIRST)]))
        for orders in (
            [("watch", FIRST), ("watch", ALL)], [("hold", ALL), ("watch", FIRST)], [("watch", ALL)],
            [("watch", ALL), ("watch", FIRST), ("do", ("wait", 1))],
        ):
            self.assertFalse(one == desk_of(orders))
        self.assertFalse(Desk(Land(["a", "b"], 9)) == Desk(Land(["a", "b"], 8)))
        for thing in junk():
            if not isinstance(thing, Desk):
                self.assertIs(one == thing, False)

    def test_trial(self):
        desk = example()
        desk.undo()
        before = whole(desk)
        seen = []

        def work(tried):
            seen.append(tried is desk)
            tried.give(("do", ("end", "a")))
            tried.undo()
            tried.undo()
            tried.give(("watch", FIRST))
            return tried.orders()

        self.same(desk.trial(work=work), [("do", ("make", "a", 1)), ("watch", FIRST)])
        self.assertEqual(seen, [True])
        self.assertEqual(whole(desk), before)
        self.assertIsNone(desk.trial(lambda tried: None))

    def test_trial_left_by_an_error(self):
        desk = example()
        desk.undo()
        before = whole(desk)
        error = KeyError("x")

        def work(tried):
            tried.redo()
            tried.give(("leave", ALL))
            raise error

        with self.assertRaises(KeyError) as caught:
            desk.trial(work)
        self.assertIs(caught.exception, error)
        self.assertEqual(whole(desk), before)
        with self.assertRaises(CannotBeDone):
            desk.trial(lambda tried: tried.give(("do", ("end", "b"))))
        self.assertEqual(whole(desk), before)

    def test_trials_within_one_another(self):
        desk = example()
        before = whole(desk)

        def work(depth):
            def tried(one):
                one.give(("do", ("wait", 1)))
                inside = whole(one)
                if depth:
                    with self.assertRaises(ValueError):
                        one.trial(work(depth - 1))
                self.assertEqual(whole(one), inside)
                raise ValueError
            return tried

        with self.assertRaises(ValueError):
            desk.trial(work(5))
        self.assertEqual(whole(desk), before)

    def test_what_comes_out_of_a_trial_goes_on(self):
        desk = example()
        other = desk.trial(lambda tried: [tried.give(("do", ("wait", 1))), tried.copy()][1])
        self.assertEqual([desk.count(), other.count()], [3, 4])


if __name__ == "__main__":
    unittest.main()
