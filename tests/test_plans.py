import functools
import itertools
import random
import unittest

from oldaddress.errors import BadPrices, BadPromise, BadWish
from oldaddress.histories import History
from oldaddress.holders import due
from oldaddress.lands import Land
from oldaddress.plans import cheapest_plan, closed_lot, how_many, is_closed_lot, is_plan, reached, shortest_plan
from oldaddress.promises import keeps
from oldaddress.states import state
from tests.asking import Asking
from tests.naive import Naive, all_deeds, can, done, junk, random_deeds, stretches

HISTORY = History(Land(["a", "b", "c"], 4), [("make", "a", 1), ("make", "b", 1)])
WISH = {"a": [(2, 2)], "b": [(1, 1)]}
PROMISE = ("first", None, 1)
PLAN = [("move", "a", "c"), ("pour", "b", "c"), ("wait", 1), ("wait", 1), ("split", "c", 1, "b", "a")]
WORDS = ("move", "swap", "cut", "split", "pour")


@functools.cache
def all_turns(addresses, most):
    return [deed for deed in all_deeds(addresses, range(1, most + 1)) if deed[0] in WORDS]


class Laid:
    """What lies where and what is known of it, piece by piece: quicker than histories that grow with each turn."""

    def __init__(self, naive, promise):
        self.addresses, self.most, self.promise = naive.addresses, naive.most, promise
        self.rows = {address: list(row) for address, row in naive.rows[-1].items()}
        self.known = []
        if promise is not None:
            for address, moment in naive.holders(promise[2], naive.now):
                age = naive.age(moment, naive.now)
                self.know(address, naive.living((address, moment), naive.now), age)

    def know(self, address, row, age):
        """Somebody means what lives of a row, and has an age; without a life nobody has one."""
        age = None if self.promise[2] is None else age
        same = [ages for at, told, ages in self.known if (at, told) == (address, row)]
        if not same:
            self.known.append((address, row, [age]))
        elif age is not None:
            same[0][0] = min(same[0][0], age)

    def turns(self):
        """All turns that can be done, as tuples compare."""
        found = [turn for turn in all_turns(tuple(self.addresses), self.most) if can(self.rows, self.most, turn)]
        return sorted(found + [("wait", 1)])

    def then(self, turn):
        later = Laid.__new__(Laid)
        later.addresses, later.most, later.promise = self.addresses, self.most, self.promise
        later.rows, _ = done(self.rows, 0, turn)
        later.known = []
        if self.promise is not None:
            life = self.promise[2]
            for address, row, (age,) in self.known:
                if turn[0] == "wait" and life is not None:
                    age += 1
                if life is None or age <= life:
                    later.know(address, row, age)
            for address, row in later.rows.items():
                if row:
                    later.know(address, row, 0)
        return later

    def spot(self):
        told = tuple(tuple(row) for row in self.rows.values())
        return (told, tuple(sorted((address, tuple(row), str(ages)) for address, row, ages in self.known)))

    def kept(self):
        if self.promise is None:
            return True
        policy, width, _ = self.promise
        naive = Naive(self.addresses, self.most, [])
        naive.rows = [self.rows]
        comers = []
        for index, (address, row, _) in enumerate(self.known):
            naive.meant = lambda holder: self.known[holder[1]][1]
            comers.append(((address, index), naive.due((address, index), policy, 0)))
        return naive.table_for(width, comers) is not None

    def cost(self, turn, prices):
        """What a turn costs, piece by piece."""
        if turn[0] == "wait":
            return prices[1]
        lay = {piece: address for address, row in self.rows.items() for piece in row}
        lies = {piece: address for address, row in self.then(turn).rows.items() for piece in row}
        return prices[0] * sum(lay[piece] != lies[piece] for piece in lay)

    def told(self):
        return {address: stretches(row) for address, row in self.rows.items()}

    def is_so(self, wish):
        return all(self.told()[address] == [tuple(pair) for pair in row] for address, row in wish.items())


def search(naive, promise, cap=400):
    """The dict from spots to the first shortest turns and what lies behind them, None if there are too many."""
    start = Laid(naive, promise)
    met = {start.spot(): ([], start)}
    queue = [([], start)]
    for way, ahead in queue:
        for turn in ahead.turns():
            later = ahead.then(turn)
            if later.spot() not in met and later.kept():
                met[later.spot()] = (way + [turn], later)
                queue.append((way + [turn], later))
                if len(met) > cap:
                    return None
    return met


def cheapest(naive, wish, promise, prices, most):
    """The least of all plans of at most so many turns, as (cost, turns, plan), gone through one by one."""
    best = None
    level = [(0, [], Laid(naive, promise))]
    for _ in range(most + 1):
        longer = []
        for paid, way, ahead in level:
            if ahead.is_so(wish) and (best is None or (paid, len(way), way) < best):
                best = (paid, len(way), way)
            for turn in ahead.turns():
                later = ahead.then(turn)
                if later.kept():
                    longer.append((paid + ahead.cost(turn, prices), way + [turn], later))
        level = longer
    return best


@functools.cache
def random_grounds(seed, count, pieces=3, cap=150):
    """Triples (naive history, promise, search) with few living pieces, and few spots."""
    rng = random.Random(seed)
    found = []
    while len(found) < count:
        addresses = ["b", "a", "d", "c"][:rng.choice((2, 3, 3, 4))]
        naive = Naive(addresses, 5, random_deeds(rng, addresses, 5, rng.randint(1, 6), 2))
        living = sum(map(len, naive.rows[-1].values()))
        promise = rng.choice([None] + [
            (policy, width, life) for policy in ("all", "first", "most") for width in (None, 1, 2)
            for life in (0, 1, 2, None)
        ])
        if 1 <= living <= pieces:
            met = search(naive, promise, cap)
            if met is not None:
                found.append((naive, promise, met))
    return found


@functools.cache
def grounds_to_swap():
    """Such triples of two pieces that can be made to change places by longer plans alone."""
    found = []
    for addresses, promise in (
        (["a", "c", "b"], ("all", None, 0)), (["c", "b", "a"], ("all", 1, 0)), (["a", "b"], ("first", None, 1)),
        (["b", "a"], ("first", 1, 2)), (["a", "b"], ("most", None, 2)),
    ):
        naive = Naive(addresses, 2, [("make", "a", 1), ("make", "b", 1)])
        found.append((naive, promise, search(naive, promise)))
    return found


def random_wish(rng, naive):
    """A wish of some living pieces at some addresses."""
    pieces = [piece for row in naive.rows[-1].values() for piece in row]
    rng.shuffle(pieces)
    wish = {}
    for address in rng.sample(naive.addresses, rng.randint(1, len(naive.addresses))):
        many = rng.randint(0, len(pieces))
        wish[address] = stretches(pieces[:many])
        pieces = pieces[many:]
    return wish


class Model(unittest.TestCase):
    def test_it_is_as_histories_are(self):
        rng = random.Random(462)
        for naive, promise, _ in random_grounds(421, 60):
            laid = Laid(naive, promise)
            for _ in range(6):
                fresh = Laid(naive, promise)
                self.assertEqual(laid.spot(), fresh.spot())
                if promise is not None:
                    self.assertIs(laid.kept(), naive.keeps(promise))
                turn = rng.choice(laid.turns())
                laid, naive = laid.then(turn), naive.then(turn)


class Wishes(Asking):
    def calls(self, wish, promise="x"):
        return (
            (is_plan, HISTORY, wish, promise, []), (shortest_plan, HISTORY, wish, promise),
            (how_many, HISTORY, wish, promise), (cheapest_plan, HISTORY, wish, promise, "x"),
            (closed_lot, HISTORY, wish, promise), (is_closed_lot, HISTORY, wish, promise, []),
        )

    def test_bad_wishes(self):
        wishes = [
            {}, {"d": []}, {"a": [(3, 3)]}, {"a": [(0, 1)]}, {"a": [(2, 1)]}, {"a": [(1, 1), (1, 1)]}, {"a": "a"},
            {"a": [(1, 1)], "b": [(1, 1)]}, {"a": [(1, 1), (2, 2)]}, {"a": [(1, 2, 3)]}, {"a": [(1,)]}, {"a": [1]},
            {"a": [(1, True)]}, {"a": [(1, "1")]}, {"a": None}, {"a": [], 1: []}, {"a": [(1, 2)], "b": [(2, 2)]},
            {"a": [(1, 10 ** 15)]}, {("a",): []}, {None: []}, {"a": {}}, {"a": [[1, 1], None]},
        ]
        for wish in junk() + wishes + [{"a": thing} for thing in junk() if thing not in ([], ())]:
            for call in self.calls(wish):
                self.refused(BadWish, wish, *call)

    def test_pieces_that_stand_twice(self):
        history = History(Land(["a", "b", "c"], 4), [("make", "a", 4)])
        for wish in (
            {"a": [(1, 2)], "b": [(2, 3)]}, {"b": [(2, 3), (1, 2)]}, {"a": [(1, 4)], "c": [(2, 3)]},
            {"a": [(1, 2)], "b": [(3, 4)], "c": [(2, 2)]}, {"a": [(4, 4)], "b": [(1, 1)], "c": [(4, 4)]},
        ):
            self.refused(BadWish, wish, shortest_plan, history, wish, None)
        self.same(shortest_plan(history, {"b": [(3, 4)], "a": [(1, 2)]}, None), [("cut", "a", 2, "b")])

    def test_pieces_that_are_gone(self):
        history = HISTORY.then(("end", "a"))
        for wish in (WISH, {"a": [(1, 1)]}, {"c": [(1, 2)]}):
            self.refused(BadWish, wish, shortest_plan, history, wish, None)
        self.same(shortest_plan(history, {"c": ((2, 2),)}, None), [("move", "b", "c")])

    def test_lists_and_tuples(self):
        for wish in ({"a": ((2, 2),), "b": [[1, 1]]}, {"b": ([1, 1],), "a": [(2, 2)]}):
            self.same(shortest_plan(HISTORY, wish, list(PROMISE)), PLAN)
        self.same(shortest_plan(HISTORY, {"c": ()}, PROMISE), [])
        self.same(shortest_plan(HISTORY, {"c": [[2, 2], (1, 1)]}, None), [("move", "b", "c"), ("pour", "a", "c")])
        joined = shortest_plan(HISTORY, {"c": [(1, 2)]}, None)
        self.same(joined, [("move", "a", "c"), ("pour", "b", "c")])

    def test_errors_in_their_order(self):
        for thing in junk():
            if thing is not None:
                for call in self.calls(WISH, thing):
                    self.refused(BadPromise, thing, *call)
                self.refused(BadPromise, thing, reached, HISTORY, thing)
            self.refused(BadPrices, thing, cheapest_plan, HISTORY, WISH, None, thing)
            for prices in ((1, thing), [thing, 1]):
                if not isinstance(thing, int) or isinstance(thing, bool) or thing < 0:
                    self.refused(BadPrices, prices, cheapest_plan, HISTORY, WISH, PROMISE, prices)
        for prices in ((1, -1), (True, 1), (1,), (1, 1, 1), "11"):
            self.refused(BadPrices, prices, cheapest_plan, HISTORY, WISH, PROMISE, prices)

    def test_arguments_stay_as_they_are(self):
        wish = {"b": [[1, 1]], "a": [(2, 2)]}
        for call in (shortest_plan, how_many, closed_lot):
            call(HISTORY, wish, PROMISE)
        self.same(wish, {"b": [[1, 1]], "a": [(2, 2)]})


class Plans(Asking):
    def test_example(self):
        self.same(shortest_plan(history=HISTORY, wish=WISH, promise=None), [("swap", "a", "b")])
        self.same(shortest_plan(HISTORY, WISH, PROMISE), PLAN)
        self.assertEqual(how_many(history=HISTORY, wish=WISH, promise=PROMISE), 6)
        wait = ("wait", 1)
        plan = [("move", "a", "c"), wait, wait, ("move", "b", "a"), wait, wait, ("move", "c", "b")]
        self.same(cheapest_plan(history=HISTORY, wish=WISH, promise=PROMISE, prices=[1, 0]), (3, plan))
        self.assertIs(is_plan(history=HISTORY, wish=WISH, promise=PROMISE, thing=plan), True)
        self.assertIsNone(shortest_plan(HISTORY, WISH, ("first", None, None)))
        self.assertEqual(how_many(HISTORY, WISH, ("first", None, None)), 0)
        self.assertIsNone(cheapest_plan(HISTORY, WISH, ("first", None, None), (1, 1)))
        told = [found["a"] for found in reached(HISTORY, ("first", None, None))]
        for row in ([], [(1, 1)], [(1, 2)], [(2, 2), (1, 1)]):
            self.assertIn(row, told)
        self.assertNotIn([(2, 2)], told)

    def test_shortest(self):
        rng = random.Random(421)
        found = set()
        for naive, promise, met in random_grounds(421, 60):
            for _ in range(3):
                wish = random_wish(rng, naive)
                plans = [way for way, later in met.values() if later.is_so(wish)]
                told = shortest_plan(naive.told(), wish, promise)
                expected = plans[0] if plans else None
                self.same(told, expected)
                self.check_lot(naive, wish, promise, told, met)
                if told is not None:
                    self.assertIs(is_plan(naive.told(), wish, promise, told), True)
                    self.assertIs(is_plan(naive.told(), wish, promise, tuple(map(list, told))), True)
                else:
                    self.assertEqual(how_many(naive.told(), wish, promise), 0)
                    self.assertIsNone(cheapest_plan(naive.told(), wish, promise, (2, 3)))
                found.add(None if told is None else min(len(told), 4))
        self.assertEqual(found, {None, 0, 1, 2, 3, 4})

    def check_lot(self, naive, wish, promise, told, met):
        lot = closed_lot(naive.told(), wish, promise)
        self.assertNotEqual(told is None, lot is None)
        if lot is not None:
            self.same(lot, [way for way, _ in met.values()])
            self.assertIs(is_closed_lot(naive.told(), wish, promise, lot), True)
            self.assertIs(is_closed_lot(naive.told(), wish, promise, lot[:-1]), len(lot) == 0)
        elif len(told) > 0:
            ways = [way for way, later in met.values() if not later.is_so(wish)]
            self.assertIs(is_closed_lot(naive.told(), wish, promise, ways), False)

    def test_how_many(self):
        rng = random.Random(422)
        many = set()
        for naive, promise, _ in random_grounds(421, 60) + grounds_to_swap():
            wish = WISH if naive.addresses == ["a", "c", "b"] else random_wish(rng, naive)
            level = [([], Laid(naive, promise))]
            for _ in range(5):
                plans = [way for way, later in level if later.is_so(wish)]
                if plans:
                    self.assertEqual(how_many(naive.told(), wish, promise), len(plans))
                    self.same(shortest_plan(naive.told(), wish, promise), min(plans))
                    many.add(len(plans))
                    break
                level = [(way + [turn], later.then(turn)) for way, later in level for turn in later.turns()
                         if later.then(turn).kept()]
        self.assertGreater(max(many), 3)

    def test_kept_or_not(self):
        broken = History(Land(["a", "b"], 3), [("make", "a", 1), ("end", "a"), ("make", "a", 1)])
        self.assertIs(keeps(broken, PROMISE), False)
        self.same(shortest_plan(broken, {"a": [(2, 2)]}, PROMISE), [])
        self.assertEqual(how_many(broken, {"a": [(2, 2)]}, PROMISE), 1)
        self.same(cheapest_plan(broken, {"a": [(2, 2)]}, PROMISE, (1, 1)), (0, []))
        self.assertIs(is_plan(broken, {"a": [(2, 2)]}, PROMISE, []), True)
        self.assertIsNone(closed_lot(broken, {"a": [(2, 2)]}, PROMISE))
        self.assertIs(is_closed_lot(broken, {"a": [(2, 2)]}, PROMISE, [[]]), False)
        # Behind one day alone it is broken still, and each turn has to keep it.
        self.assertIsNone(shortest_plan(broken, {"b": [(2, 2)]}, PROMISE))
        self.same(closed_lot(broken, {"b": [(2, 2)]}, PROMISE), [[]])
        self.same(reached(broken, PROMISE), [{"a": [(2, 2)], "b": []}])

    def test_names_compare_as_strings(self):
        history = History(Land(["c", "b", "a"], 2), [("make", "c", 1)])
        self.same(shortest_plan(history, {"c": []}, None), [("move", "c", "a")])
        self.assertEqual(how_many(history, {"c": []}, None), 2)
        self.same(cheapest_plan(history, {"c": ()}, None, (0, 0)), (0, [("move", "c", "a")]))
        self.same([found["b"] for found in reached(history, None)], [[], [], [(1, 1)]])
        self.assertEqual([list(found) for found in reached(history, None)], [["c", "b", "a"]] * 3)

    def test_is_plan(self):
        rng = random.Random(423)
        right = wrong = 0
        for naive, promise, _ in random_grounds(421, 60):
            wish = random_wish(rng, naive)
            told = shortest_plan(naive.told(), wish, promise) or []
            for _ in range(6):
                at = rng.randint(0, len(told))
                way = told[:at] + [("wait", 1)] + told[at:]
                if rng.random() < 0.5:
                    way, later = [], naive
                    for _ in range(rng.randint(0, 4)):
                        way.append(rng.choice([d for d in later.small_steps() if d[0] in WORDS + ("wait",)]))
                        later = later.then(way[-1])
                expected, later = True, naive
                for turn in way:
                    expected = expected and later.can(turn)
                    if expected:
                        later = later.then(turn)
                        expected = promise is None or later.keeps(promise)
                expected = expected and all(later.told().row(address) == row for address, row in wish.items())
                self.assertIs(is_plan(naive.told(), wish, promise, way), expected)
                right, wrong = right + expected, wrong + (not expected)
        self.assertGreater(min(right, wrong), 80)

    def test_what_is_no_plan(self):
        for thing in junk():
            self.assertIs(is_plan(HISTORY, WISH, PROMISE, thing), False)
            self.assertIs(is_plan(HISTORY, {"c": []}, PROMISE, thing), thing in ([], ()))
            self.assertIs(is_plan(HISTORY, WISH, PROMISE, PLAN + [thing]), False)
        for index, other in ((2, ("wait", 2)), (0, ("swap", "a", "b")), (4, ("make", "a", 1)), (4, ("split", "c", 0, "b", "a"))):
            self.assertIs(is_plan(HISTORY, WISH, PROMISE, PLAN[:index] + [other] + PLAN[index + 1:]), False)
        self.assertIs(is_plan(HISTORY, {"c": []}, None, [("make", "c", 1), ("end", "c")]), False)
        self.assertIs(is_plan(HISTORY, {"c": []}, None, [("wait", 2)]), False)
        self.assertIs(is_plan(HISTORY, {"c": []}, None, [["wait", 1]]), True)
        self.assertIs(is_plan(HISTORY, {"c": []}, None, [("drop", "a", 0, 1)]), False)


class ClosedLots(Asking):
    promise = ("first", None, None)

    def test_what_is_none(self):
        lot = closed_lot(HISTORY, WISH, self.promise)
        told = lambda thing: is_closed_lot(HISTORY, WISH, self.promise, thing)
        self.assertGreater(len(lot), 50)
        self.assertIs(told(lot[::-1]), True)
        self.assertIs(is_closed_lot(history=HISTORY, wish=WISH, promise=self.promise, thing=tuple(
            tuple(map(list, way)) for way in lot)), True)
        self.assertIs(told(lot + lot[5:9]), True)
        self.assertIs(told(lot + [[("wait", 1)] * 5]), True)
        for index in list(range(0, len(lot), 5)) + [len(lot) - 1]:
            self.assertIs(told(lot[:index] + lot[index + 1:]), False)
        for way in ([("swap", "a", "b")], [("wait", 2)], [("make", "c", 1)], [("end", "a")], [("move", "a", "b")], 0, None):
            self.assertIs(told(lot + [way]), False)
        for thing in junk():
            self.assertIs(told(thing), False)
            self.assertIs(told(lot + [thing]), thing in ([], ()))
            self.assertIs(told(lot + [[thing]]), False)

    def test_where_there_is_a_plan_there_is_none(self):
        ways = [way for way, later in search(Naive(["a", "b", "c"], 4, HISTORY.deeds()), None).values()]
        self.assertIs(is_closed_lot(HISTORY, WISH, None, ways), False)
        self.assertIsNone(closed_lot(HISTORY, WISH, None))
        two = History(Land(["a", "b"], 3), [("make", "a", 3)])
        wish = {"a": [(1, 1), (3, 3), (2, 2)]}
        lot = closed_lot(two, wish, None)
        self.assertIs(is_closed_lot(two, wish, None, lot), True)
        self.assertIs(is_closed_lot(two, {"a": [(2, 3), (1, 1)]}, None, lot), False)


class Cheapest(Asking):
    def test_among_all_plans(self):
        rng = random.Random(431)
        found = set()
        for naive, promise, _ in random_grounds(432, 80, 2, 120):
            wish = random_wish(rng, naive)
            prices = rng.choice(((1, 0), (0, 1), (1, 1), (0, 0), (3, 1), (1, 5)))
            expected = cheapest(naive, wish, promise, prices, 3)
            told = cheapest_plan(naive.told(), wish, promise, prices)
            if told is not None and len(told[1]) <= 3:
                self.same(told, (expected[0], expected[2]))
                found.add((len(told[1]), min(told[0], 3)))
            elif expected is not None:
                self.assertLess((told[0], len(told[1])), expected[:2])
        self.assertLessEqual({(0, 0), (1, 1), (2, 0), (1, 0)}, found)

    def test_longer_ones(self):
        """The least cost by what is least from spot to spot, again and again till nothing is less."""
        rng = random.Random(432)
        longer = 0
        for naive, promise, met in random_grounds(432, 80, 2, 120)[:40] + grounds_to_swap():
            prices = rng.choice(((1, 0), (5, 1), (2, 3), (0, 1), (0, 0)))
            queue = [Laid(naive, promise)]
            least = {queue[0].spot(): (0, 0, [])}
            while queue:
                ahead = queue.pop(0)
                paid, many, way = least[ahead.spot()]
                for turn in ahead.turns():
                    later = ahead.then(turn)
                    if later.kept():
                        worth = (paid + ahead.cost(turn, prices), many + 1, way + [turn])
                        if later.spot() not in least or worth < least[later.spot()]:
                            least[later.spot()] = worth
                            queue.append(later)
            for wish in [random_wish(rng, naive), random_wish(rng, naive), WISH]:
                if not set(wish) <= set(naive.addresses) or naive.rows[-1]["a"] + naive.rows[-1]["b"] != [1, 2]:
                    wish = random_wish(rng, naive)
                goals = [least[at] for at, (_, later) in met.items() if later.is_so(wish)]
                told = cheapest_plan(naive.told(), wish, promise, prices)
                self.same(told, (min(goals)[0], min(goals)[2]) if goals else None)
                longer += told is not None and len(told[1]) > 4
        self.assertGreater(longer, 5)

    def test_what_turns_cost(self):
        history = History(Land(["a", "b", "c"], 4), [("make", "a", 3), ("make", "b", 1)])
        for wish, plan, pieces in (
            ({"c": [(1, 3)]}, [("move", "a", "c")], 3), ({"a": [(4, 4)], "c": []}, [("swap", "a", "b")], 4),
            ({"a": [(1, 1)], "c": [(2, 3)]}, [("cut", "a", 1, "c")], 2), ({"b": [(4, 4), (1, 3)]}, [("pour", "a", "b")], 3),
        ):
            self.same(cheapest_plan(history, wish, None, (7, 1000)), (7 * pieces, plan))
        history = History(Land(["a", "b", "c"], 4), [("make", "a", 3)])
        self.same(cheapest_plan(history, {"b": [(1, 1)], "c": [(2, 3)]}, None, (5, 0)), (15, [("split", "a", 1, "b", "c")]))
        self.same(cheapest_plan(HISTORY, WISH, PROMISE, (0, 0))[0], 0)
        self.same(cheapest_plan(HISTORY, WISH, PROMISE, (0, 0))[1], PLAN)
        self.same(cheapest_plan(HISTORY, WISH, PROMISE, (1, 0))[0], 3)
        self.same(cheapest_plan(HISTORY, WISH, PROMISE, (1, 1000))[0], 2004)


class Reached(Asking):
    def test_in_order(self):
        for naive, promise, met in random_grounds(421, 60):
            expected = []
            for _, later in met.values():
                if later.told() not in expected:
                    expected.append(later.told())
            told = reached(naive.told(), promise)
            self.same(told, expected)
            self.same(told[0], naive.told().rows())
            for wish in told[:5]:
                self.assertIsNotNone(shortest_plan(naive.told(), wish, promise))

    def ways_to_lie(self, addresses, pieces):
        """All ways to lay pieces in rows."""
        found = []
        for order in itertools.permutations(pieces):
            for cuts in itertools.combinations_with_replacement(range(len(pieces) + 1), len(addresses) - 1):
                edges = (0,) + cuts + (len(pieces),)
                parts = [list(order[low:high]) for low, high in zip(edges, edges[1:])]
                if dict(zip(addresses, parts)) not in found:
                    found.append(dict(zip(addresses, parts)))
        return found

    def test_without_a_promise(self):
        for addresses, many in ((["a", "b", "c"], 3), (["c", "a", "d", "b"], 2), (["b", "a"], 3), (["a", "b"], 4)):
            history = History(Land(addresses, many), [("make", "a", many)])
            told = reached(history=history, promise=None)
            every = self.ways_to_lie(addresses, list(range(1, many + 1)))
            if len(addresses) == 2:
                start = list(range(1, many + 1))
                rounds = [start[at:] + start[:at] for at in range(many)]
                every = [way for way in every if way[addresses[0]] + way[addresses[1]] in rounds]
            every = [{address: stretches(row) for address, row in way.items()} for way in every]
            self.assertEqual(len(told), len(every))
            for way in every:
                self.assertIn(way, told)

    def test_new_lists_each_time(self):
        told = reached(HISTORY, None)
        told[0]["a"].append("x")
        self.same(reached(HISTORY, None)[0], {"a": [(1, 1)], "b": [(2, 2)], "c": []})


class Rest(Asking):
    """[11.6], by moves and waits alone, where those within life mean just what lies there now."""

    def test_there_is_a_plan(self):
        rng = random.Random(451)
        for _ in range(25):
            life = rng.choice((0, 1, 2))
            addresses = ["a", "b", "c", "d"][:rng.choice((3, 4))]
            lying = rng.sample(addresses, rng.randint(1, len(addresses) - 1))
            deeds = [("make", address, 1) for address in lying] + [("wait", life + 1)]
            history = History(Land(addresses, 4), deeds)
            wished = rng.sample(addresses, len(lying))
            wish = {address: [(index + 1, index + 1)] for index, address in enumerate(wished)}
            promise = (rng.choice(("all", "first")), rng.choice((None, 1)), life)
            cost_, plan = cheapest_plan(history, wish, promise, (1000, 1))
            self.assertLessEqual(cost_ // 1000, len(lying) * 3 // 2)
            waits = sum(turn == ("wait", 1) for turn in plan)
            self.assertLessEqual(waits, max(0, cost_ // 1000 - 1) * (life + 1))

    def test_an_address_that_was_left_without_a_life(self):
        for naive, _, _ in random_grounds(421, 60):
            for policy in ("all", "first"):
                promise = (policy, None, None)
                history = naive.told()
                if not keeps(history, promise) or search(naive, promise, 100) is None:
                    continue
                for found in reached(history, promise)[:40]:
                    for address in naive.addresses:
                        if naive.rows[-1][address] == [] and found[address]:
                            self.check_had_again(naive, history, policy, address, found[address])

    def check_had_again(self, naive, history, policy, address, row):
        pieces = [piece for first, last in row for piece in range(first, last + 1)]
        for holder in naive.holders(None, naive.now):
            if holder[0] == address:
                living = naive.living(holder, naive.now)
                self.assertNotEqual(living, [])
                self.assertLessEqual(set(living if policy == "all" else living[:1]), set(pieces))
                self.assertEqual(bool(due(history, holder, policy)), True)


class EqualStates(Asking):
    def test_plans_hang_on_the_spot_alone(self):
        """Histories with equal states can lay, by the same turns, what lies at the same places."""
        rng = random.Random(461)
        lots = {}
        for naive, _, _ in random_grounds(461, 150, 2, 60):
            for life in (0, 1, None):
                if len(naive.addresses) < 4:
                    key = (tuple(naive.addresses), life, naive.state(life))
                    lots.setdefault(key, []).append(naive)
        compared = 0
        for (addresses, life, _), lot in lots.items():
            for one, other in zip(lot, lot[1:]):
                first = [piece for row in one.rows[-1].values() for piece in row]
                second = [piece for row in other.rows[-1].values() for piece in row]
                same = dict(zip(first, second))
                promise = (rng.choice(("all", "first", "most")), rng.choice((None, 2)), life)
                order = rng.sample(first, len(first))
                address = rng.choice(addresses)
                told = shortest_plan(one.told(), {address: stretches(order)}, promise)
                other_wish = {address: stretches([same[piece] for piece in order])}
                self.same(told, shortest_plan(other.told(), other_wish, promise))
                self.assertEqual(
                    how_many(one.told(), {address: stretches(order)}, promise),
                    how_many(other.told(), other_wish, promise),
                )
                self.same(closed_lot(one.told(), {address: stretches(order)}, promise),
                          closed_lot(other.told(), other_wish, promise))
                self.assertEqual(state(one.told(), life), state(other.told(), life))
                compared += told is None or len(told) > 1
        self.assertGreater(compared, 20)


if __name__ == "__main__":
    unittest.main()
