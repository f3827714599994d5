import itertools
import random
import unittest

from oldaddress.errors import BadLife
from oldaddress.gentle import idle_needed, is_gentle, lost_history
from oldaddress.histories import History
from oldaddress.lands import Land
from oldaddress.refusals import BadIdle, BadMoves, BadPace, BadRest
from oldaddress.walks import first_lost
from tests.asking import Asking
from tests.naive import Naive, junk, random_histories

LAND = Land(["a", "b", "c"], 3)


def no_number(thing):
    return not (type(thing) is int and thing >= 0)


def naive_gentle(naive, rest, moves, idle):
    """Told of each thing and each address by itself: when it moved and ended, when it got free and something."""
    if not {deed[0] for deed in naive.deeds} <= {"make", "grow", "move", "end", "wait"}:
        return False
    things, at, free = [], {}, {address: [] for address in naive.addresses}
    for moment, deed in enumerate(naive.deeds):
        day = naive.days[moment]
        if deed[0] == "make":
            at[deed[1]] = len(things)
            things.append([])
            free[deed[1]].append(("got", day))
        elif deed[0] == "move":
            at[deed[2]] = at.pop(deed[1])
            things[at[deed[2]]].append(("move", day))
            free[deed[1]].append(("free", day))
            free[deed[2]].append(("got", day))
        elif deed[0] == "end":
            things[at.pop(deed[1])].append(("end", day))
            free[deed[1]].append(("free", day))
    for events in things:
        if sum(word == "move" for word, day in events) > moves:
            return False
        if any(one[1] + rest > other[1] for one, other in zip(events, events[1:])):
            return False
    for events in free.values():
        for one, other in zip(events, events[1:]):
            if one[0] == "free" and one[1] + idle > other[1]:
                return False
    return True


def gentle_histories(rest, moves, idle, many):
    """All gentle histories of a few deeds, with waits of such days as borders are crossed by."""
    days = sorted({1, rest, idle} - {0})
    level = [Naive(["a", "b", "c"][:min(3, moves + 2)], 2, [])]
    for _ in range(many):
        longer = []
        for naive in level:
            steps = [deed for deed in naive.small_steps() if deed[0] in ("make", "move", "end") and deed[-1] != 2]
            if naive.deeds and naive.deeds[-1][0] != "wait":
                steps += [("wait", day) for day in days]
            for deed in steps:
                later = naive.then(deed)
                if naive_gentle(later, rest, moves, idle):
                    longer.append(later)
                    yield later
        level = longer


class Gentle(Asking):
    def test_example(self):
        self.assertEqual(idle_needed(3, 1, 2, 2), 4)
        self.assertEqual(idle_needed(life=3, pace=3, rest=2, moves=2), 6)

    def test_formula(self):
        for life, pace, rest, moves in itertools.product((0, 1, 7), (1, 2, 5), (0, 1, 2, 6), (0, 1, 4)):
            expected = life + 1 + (moves * (pace - rest) if pace > rest else 0)
            self.same(idle_needed(life, pace, rest, moves), expected)
        self.same(idle_needed(10 ** 12, 10 ** 12, 1, 4), 10 ** 12 + 1 + 4 * (10 ** 12 - 1))

    def test_gentle(self):
        met = set()
        for naive, history in random_histories(1340, 120):
            for rest, moves, idle in itertools.product((0, 1, 2), (0, 1, 2), (0, 1, 3)):
                expected = naive_gentle(naive, rest, moves, idle)
                self.assertIs(is_gentle(history, rest, moves, idle), expected)
                met.add((expected, len(naive.deeds) > 3))
        self.assertEqual(len(met), 4)
        rng = random.Random(1341)
        for _ in range(150):
            naive = Naive(["a", "b", "c"], 2, [])
            for _ in range(rng.randint(2, 9)):
                steps = [deed for deed in naive.small_steps() if deed[0] in ("make", "grow", "move", "end")]
                naive = naive.then(rng.choice(steps + [("wait", 1), ("wait", 2), ("wait", 1)]))
            for rest, moves, idle in itertools.product((0, 1, 2, 4), (0, 1, 2, 3), (0, 1, 2, 4)):
                expected = naive_gentle(naive, rest, moves, idle)
                self.assertIs(is_gentle(naive.told(), rest, moves, idle), expected)

    def test_borders(self):
        moving = [("make", "a", 1), ("move", "a", "b"), ("wait", 2), ("move", "b", "c"), ("wait", 3), ("make", "b", 1)]
        history = History(LAND, moving)
        self.assertIs(is_gentle(history, 2, 2, 3), True)
        self.assertIs(is_gentle(history, rest=3, moves=2, idle=3), False)
        self.assertIs(is_gentle(history, 2, 1, 3), False)
        self.assertIs(is_gentle(history, 2, 2, 4), False)
        self.assertIs(is_gentle(history.then(("end", "c")), 3, 2, 3), False)
        self.assertIs(is_gentle(history.then(("move", "c", "a")), 2, 3, 3), True)
        self.assertIs(is_gentle(history.then(("move", "c", "a")), 2, 3, 6), False)
        self.assertIs(is_gentle(History(LAND, [("make", "a", 2), ("grow", "a", 1), ("end", "a")]), 9, 0, 9), True)
        for deed in (("cut", "a", 1, "b"), ("split", "a", 1, "b", "c"), ("drop", "a", 0, 1)):
            self.assertIs(is_gentle(History(LAND, [("make", "a", 2), deed]), 0, 9, 0), False)
        two = History(LAND, [("make", "a", 1), ("make", "b", 1)])
        for deed in (("swap", "a", "b"), ("pour", "a", "b")):
            self.assertIs(is_gentle(two.then(deed), 0, 9, 0), False)

    def test_who_ends_and_comes_back_begins_anew(self):
        """What is made behind an end moved never yet, and has not to rest ahead of its first move."""
        deeds = [("make", "a", 1), ("move", "a", "b"), ("wait", 5), ("end", "b"), ("make", "b", 1), ("move", "b", "c")]
        self.assertIs(is_gentle(History(LAND, deeds), 5, 1, 0), True)
        self.assertIs(is_gentle(History(LAND, deeds), 6, 1, 0), False)
        self.assertIs(is_gentle(History(LAND, deeds), 5, 1, 1), False)

    def test_just_one(self):
        for life, pace, rest, moves in itertools.product((0, 1, 3), (1, 2, 4), (0, 1, 2, 3), (0, 1, 2, 3)):
            needed = idle_needed(life, pace, rest, moves)
            for idle in range(needed + 2):
                told = lost_history(life, pace, rest, moves, idle)
                if idle >= needed:
                    self.assertIsNone(told)
                    continue
                self.assertIs(type(told), History)
                self.assertIs(is_gentle(told, rest, moves, idle), True)
                self.assertIsNotNone(first_lost(told, pace, life))

    def test_enough_is_enough(self):
        """In no gentle history anybody is lost, be they all of a few deeds."""
        met = 0
        for life, pace, rest, moves in itertools.product((0, 2), (1, 3), (0, 1, 3), (0, 1)):
            needed = idle_needed(life, pace, rest, moves)
            for naive in gentle_histories(rest, moves, needed, 6):
                history = naive.told()
                self.assertIs(is_gentle(history, rest, moves, needed), True)
                self.assertIsNone(first_lost(history, pace, life))
                met += 1
        self.assertGreater(met, 3000)

    def test_great_numbers(self):
        great = 10 ** 12
        for life, pace, rest, moves in ((great, great, 0, 4), (0, great, great - 1, 4), (great, 1, great, 4)):
            needed = idle_needed(life, pace, rest, moves)
            self.assertIsNone(lost_history(life, pace, rest, moves, needed))
            told = lost_history(life=life, pace=pace, rest=rest, moves=moves, idle=needed - 1)
            self.assertIs(is_gentle(told, rest, moves, needed - 1), True)
            self.assertIsNotNone(first_lost(told, pace, life))

    def test_errors_in_their_order(self):
        history = History(LAND, [])
        for thing in junk():
            if no_number(thing):
                self.refused(BadRest, thing, is_gentle, history, thing, -1, -1)
                self.refused(BadMoves, thing, is_gentle, history, 0, thing, -1)
                self.refused(BadIdle, thing, is_gentle, history, 0, 0, thing)
                self.refused(BadLife, thing, idle_needed, thing, 0, -1, -1)
                self.refused(BadLife, thing, lost_history, thing, 0, -1, -1, -1)
                self.refused(BadRest, thing, idle_needed, 0, 1, thing, -1)
                self.refused(BadRest, thing, lost_history, 0, 1, thing, -1, -1)
                self.refused(BadMoves, thing, idle_needed, 0, 1, 0, thing)
                self.refused(BadMoves, thing, lost_history, 0, 1, 0, thing, -1)
                self.refused(BadIdle, thing, lost_history, 0, 1, 0, 0, thing)
            if not (type(thing) is int and thing >= 1):
                self.refused(BadPace, thing, idle_needed, 0, thing, -1, -1)
                self.refused(BadPace, thing, lost_history, 0, thing, -1, -1, -1)


if __name__ == "__main__":
    unittest.main()
