import itertools
import random
import unittest

from oldaddress.errors import BadLife, BadMoment, BadPolicy, CannotBeDone, NoAddress
from oldaddress.promises import keeps, table
from oldaddress.refusals import BadSeen
from oldaddress.roles import (
    barred,
    both_clash,
    both_table,
    first_wanting,
    keeps_both,
    role_due,
    wanting_two,
    which,
)
from tests.asking import Asking, example
from tests.naive import POLICIES, all_histories, junk, random_histories

LIVES = (None, 0, 1, 3)


def naive_role(naive, address, moment):
    return (address,) if naive.rows[moment][address] else ()


def naive_clash(naive, policy, life, moment):
    for holder in naive.holders(life, moment):
        if naive.due(holder, policy, moment) != naive_role(naive, holder[0], moment):
            return holder
    return None


class Both(Asking):
    def test_example(self):
        history = example()
        self.same(both_clash(history, "all", 0), ("a", 3))
        self.assertIsNone(both_table(history, "all", 0))
        self.same(both_table(history, "all", 0, 3), {"a": ("a",), "b": ("b",), "c": ()})
        self.assertIs(keeps_both(history.ahead(3), ("end", "b"), "all", 0), True)
        self.assertIs(keeps_both(history.ahead(3), ("pour", "a", "b"), "all", 0), False)

    def test_roles(self):
        for naive, history in random_histories(1710, 30):
            for address in naive.addresses:
                self.same(role_due(history, address), naive_role(naive, address, naive.now))
                for moment in range(naive.now + 1):
                    self.same(role_due(history, address, moment), naive_role(naive, address, moment))
        self.same(role_due(moment=1, address="b", history=example()), ())

    def test_just_one(self):
        met = set()
        for naive, history in random_histories(1711, 50):
            for policy, life in itertools.product(POLICIES, LIVES):
                for moment in [None, *range(naive.now + 1)]:
                    at = naive.now if moment is None else moment
                    expected = naive_clash(naive, policy, life, at)
                    self.same(both_clash(history, policy, life, moment), expected)
                    told = both_table(history, policy, life, moment)
                    met.add((expected is None, keeps(history, (policy, None, life), moment)))
                    if expected is not None:
                        self.assertIsNone(told)
                        continue
                    self.same(told, {address: naive_role(naive, address, at) for address in naive.addresses})
                    self.same(list(told), naive.addresses)
                    asked = table(history, (policy, None, life), moment)
                    self.assertEqual({address: told[address] for address in asked}, asked)
        self.assertEqual(met, {(True, True), (False, True), (False, False)})

    def test_keeps_both(self):
        for naive, history in random_histories(1712, 30, 5):
            for policy, life in itertools.product(POLICIES, LIVES):
                for deed in naive.small_steps():
                    later = naive.then(deed)
                    expected = naive_clash(later, policy, life, later.now) is None
                    self.assertIs(keeps_both(history, deed, policy, life), expected)

    def test_facts_of_deeds(self):
        """Of "all", where both are served: wait, grow, end; make; drop; never another one."""
        words = set()
        for naive, history in all_histories(["b", "a"], 2, 4):
            for life in (0, None):
                if both_table(history, "all", life) is None:
                    continue
                held = naive.holders(life, naive.now)
                for deed in naive.small_steps():
                    told = keeps_both(history, deed, "all", life)
                    later = naive.then(deed)
                    if deed[0] in ("wait", "grow", "end"):
                        expected = True
                    elif deed[0] == "make":
                        expected = deed[1] not in [address for address, _ in held]
                    elif deed[0] == "drop":
                        left = [later.living(holder, later.now) for holder in held if holder[0] == deed[1]]
                        expected = not later.rows[-1][deed[1]] or all(left)
                    else:
                        expected = False
                    self.assertIs(told, expected)
                    words.add((deed[0], told))
        self.assertLessEqual({("make", True), ("make", False), ("drop", True), ("swap", False), ("cut", False)}, words)

    def test_a_cut_can_keep_it_by_first(self):
        history = example().ahead(1)
        for policy in ("first", "most"):
            self.assertIs(keeps_both(history, ("cut", "a", 3, "b"), policy, None), True)
        self.assertIs(keeps_both(deed=("cut", "a", 3, "b"), policy="all", life=None, history=history), False)
        self.assertIs(keeps_both(history, ("cut", "a", 2, "b"), "most", None), False)


class WhichKind(Asking):
    def test_example(self):
        history = example()
        self.assertEqual(which(history, "a", "all", [(1, 4, ("b",))]), "thing")
        self.assertEqual(which(history, "a", "all", [(1, 1, ("a",))]), "either")
        self.assertEqual(which(history, "a", "all", [(1, 4, ("b",)), (6, 6, ())]), "neither")
        self.same(barred(history, "a", "all", [(1, 4, ("b",)), (6, 6, ())]), (0, 1))

    def test_all_that_can_be_seen(self):
        rng = random.Random(1720)
        words = set()
        for naive, history in random_histories(1721, 120):
            for address, policy in itertools.product(naive.addresses, POLICIES):
                learned = [moment for moment in range(naive.now + 1) if naive.rows[moment][address]]
                for _ in range(4):
                    seen = []
                    for _ in range(rng.randint(0, 3) if learned else 0):
                        m = rng.choice(learned)
                        moment = rng.randint(m, naive.now)
                        due = naive.due((address, m), policy, moment)
                        told = rng.choice([due, due, naive_role(naive, address, moment),
                                           tuple(rng.sample(naive.addresses, 1))])
                        seen.append((m, moment, rng.choice((list, tuple))(told)))
                    words.add(self.check(naive, history, address, policy, seen))
        self.assertEqual(words, {"role", "thing", "either", "neither"})

    def check(self, naive, history, address, policy, seen):
        role = [index for index, (m, moment, told) in enumerate(seen)
                if tuple(told) != naive_role(naive, address, moment)]
        thing = [index for index, (m, moment, told) in enumerate(seen)
                 if tuple(told) != naive.due((address, m), policy, moment)]
        self.same(barred(history, address, policy, seen), (role[0] if role else None, thing[0] if thing else None))
        words = {(False, False): "either", (True, False): "thing", (False, True): "role", (True, True): "neither"}
        word = words[bool(role), bool(thing)]
        self.same(which(history, address, policy, tuple(seen)), word)
        return word

    def test_what_fits_is_just_the_due(self):
        history = example()
        for told in ((), ("b", "a"), ("a", "a"), ("a", "b", "b")):
            self.same(barred(history, "a", "all", [(1, 2, told)]), (0, 0))
        self.same(barred(history, "a", "all", [[1, 2, ["a", "b"]]]), (0, None))
        self.same(barred(history, "a", "first", [(1, 2, ["a"]), (1, 2, ("b",))]), (1, 1))
        self.same(barred(history=history, address="a", policy="most", seen=[]), (None, None))
        self.same(which(seen=(), policy="most", address="c", history=history), "either")

    def test_fact_where_both_are_served_nothing_tells(self):
        for naive, history in random_histories(1722, 80):
            for policy in POLICIES:
                for address in naive.addresses:
                    seen = []
                    for moment in range(naive.now + 1):
                        told = both_table(history, policy, None, moment)
                        if told is not None:
                            seen += [(m, moment, told[address]) for m in range(moment + 1) if naive.rows[m][address]]
                    self.same(which(history, address, policy, seen), "either")


class TwoNames(Asking):
    def test_wanting(self):
        history = example()
        self.same(wanting_two(history, "all", 0), ["a"])
        self.same(first_wanting(history, "all", 0), 2)
        self.same(wanting_two(policy="all", life=0, history=history.ahead(1)), [])
        self.assertIsNone(first_wanting(life=0, history=history.ahead(1), policy="all"))
        met = set()
        for naive, history in random_histories(1730, 60):
            for policy, life in itertools.product(POLICIES, LIVES):
                found = {}
                for moment in range(naive.now + 1):
                    for holder in naive.holders(life, moment):
                        if naive.due(holder, policy, moment) != naive_role(naive, holder[0], moment):
                            found.setdefault(holder[0], moment)
                self.same(wanting_two(history, policy, life), [a for a in naive.addresses if a in found])
                self.same(first_wanting(history, policy, life), min(found.values(), default=None))
                met.add(len(found))
                for address in naive.addresses:
                    for moment in range(naive.now + 1):
                        alike = all(naive.due(holder, policy, moment) == naive_role(naive, address, moment)
                                    for holder in naive.holders(life, moment) if holder[0] == address)
                        self.assertTrue(alike or address in found)
        self.assertLessEqual({0, 1, 2}, met)


class Errors(Asking):
    history = example()

    def test_both(self):
        for thing in junk():
            if thing != "a":
                self.refused(NoAddress, thing, role_due, self.history, thing, "x")
                self.refused(NoAddress, thing, which, self.history, thing, "x", "x")
                self.refused(NoAddress, thing, barred, self.history, thing, "x", "x")
            self.refused(CannotBeDone, thing, keeps_both, self.history, thing, "x", -1)
            if thing != "all":
                self.refused(BadPolicy, thing, both_table, self.history, thing, -1, -1)
                self.refused(BadPolicy, thing, both_clash, self.history, thing, -1, -1)
                self.refused(BadPolicy, thing, keeps_both, self.history, ("wait", 1), thing, -1)
                self.refused(BadPolicy, thing, wanting_two, self.history, thing, -1)
                self.refused(BadPolicy, thing, first_wanting, self.history, thing, -1)
                self.refused(BadPolicy, thing, which, self.history, "a", thing, "x")
                self.refused(BadPolicy, thing, barred, self.history, "a", thing, "x")
            if not (thing is None or type(thing) is int and thing >= 0):
                self.refused(BadLife, thing, both_table, self.history, "all", thing, -1)
                self.refused(BadLife, thing, both_clash, self.history, "all", thing, -1)
                self.refused(BadLife, thing, keeps_both, self.history, ("wait", 1), "all", thing)
                self.refused(BadLife, thing, wanting_two, self.history, "all", thing)
                self.refused(BadLife, thing, first_wanting, self.history, "all", thing)
            if thing is not None and not (type(thing) is int and 0 <= thing <= 6):
                self.refused(BadMoment, thing, role_due, self.history, "a", thing)
                self.refused(BadMoment, thing, both_table, self.history, "all", 1, thing)
                self.refused(BadMoment, thing, both_clash, self.history, "all", 1, thing)

    def test_seen(self):
        good = (1, 2, ("a",))
        for thing in junk():
            if not isinstance(thing, (list, tuple)):
                self.refused(BadSeen, 0, which, self.history, "a", "all", thing)
                self.refused(BadSeen, 0, barred, self.history, "a", "all", thing)
            if thing not in ([], (), ("a",), ["a", "a"]):
                self.refused(BadSeen, 1, which, self.history, "a", "all", [good, (1, 2, thing)])
            self.refused(BadSeen, 2, barred, self.history, "a", "all", [good, good, thing, None])
        for thing in ((0, 2, ("a",)), (4, 5, ("a",)), (2, 1, ("a",)), (1, 7, ("a",)), (1, None, ("a",)), (1, 2, "a"),
                      (1, 2, ("d",)), (1, 2), (1, 2, (), ()), (True, 2, ()), (1, True, ()), (-1, 2, ()),
                      (1, 2, {"a": 1}), (1, 2, ("a", None)), (1, 2, (["a"],))):
            self.refused(BadSeen, 0, which, self.history, "a", "all", [thing, None])
            self.refused(BadSeen, 0, barred, self.history, "a", "all", (thing,))


if __name__ == "__main__":
    unittest.main()
