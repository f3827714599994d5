import itertools
import random
import unittest

from oldaddress.callers import break_forwarder, forwarder_fault, marker_fault, marker_lasts, marker_words
from oldaddress.errors import BadMoment, BadPromise, NoWord
from oldaddress.holders import due, living
from oldaddress.lasting import at_once
from oldaddress.promises import keeps, table
from oldaddress.refusals import BadFunction, CanBeKept
from oldaddress.viewing import seen_clash
from tests.asking import Asking, example, waiting
from tests.naive import junk, no_functions, promises, random_histories, stretches


class Gone(Exception):
    pass


def raises(*parts):
    raise Gone


def naive_fault(naive, promise, told, moment):
    """The first served holder whom what was told of their address does not serve."""
    policy, width, life = promise
    for holder, dues in naive.comers(policy, life, moment):
        entry = told[holder[0]]
        is_entry = isinstance(entry, (list, tuple)) and all(type(a) is str and a in naive.addresses for a in entry)
        if is_entry and len(set(entry)) == len(entry) and naive.serves(width, tuple(entry), dues):
            continue
        return (holder, entry, dues)
    return None


class Forwarders(Asking):
    def test_example(self):
        history = waiting()
        told = break_forwarder(history, ("all", None, 1), lambda address: (address,))
        self.same(told, (("a", 2), ("a",), ("a", "b")))
        self.same(forwarder_fault(history, ("all", None, 1), lambda address: (address,)), told)

    def test_all_told(self):
        rng = random.Random(2010)
        met = set()
        for naive, history in random_histories(2011, 60):
            for promise in promises()[::3]:
                for moment in (None, rng.randint(0, naive.now)):
                    at = naive.now if moment is None else moment
                    right = table(history, promise, moment)
                    told = {}
                    for address in naive.addresses:
                        others = [(), (address,), rng.sample(naive.addresses, 2), None, 0, "a", (address, address)]
                        if right is not None:
                            others += [right.get(address)] * 20
                        told[address] = rng.choice(others)
                    asked = []

                    def forwarder(address):
                        asked.append(address)
                        return told[address]

                    expected = naive_fault(naive, promise, told, at)
                    found = forwarder_fault(history, promise, forwarder, moment)
                    self.same(found, expected)
                    if found is not None:
                        self.assertIs(found[1], told[found[0][0]])
                    held = [holder[0] for holder in naive.holders(promise[2], at)]
                    self.assertEqual(asked, [address for address in naive.addresses if address in held])
                    met.add((found is None, right is None))
                    del asked[:]
                    if right is not None:
                        self.refused(CanBeKept, None, break_forwarder, history, promise, forwarder, moment)
                        self.assertEqual(asked, [])
                        self.assertIsNone(forwarder_fault(history, promise, lambda address: right[address], moment))
                    else:
                        self.same(break_forwarder(history, promise, forwarder, moment), expected)
                        self.assertIsNotNone(expected)
                        self.assertEqual(asked, [address for address in naive.addresses if address in held])
        self.assertEqual(met, {(True, False), (False, False), (False, True)})

    def test_what_is_no_entry_serves_nobody(self):
        history = waiting()
        for thing in junk():
            if thing != ("a",):
                told = forwarder_fault(history, ("first", None, None), lambda address: thing)
                self.assertEqual((told[0], told[2]), (("a", 1), ("a",)))
                self.assertIs(told[1], thing)
        for thing in (("b", "a"), ["c", "a", "b"], ("a", "b")):
            self.same(forwarder_fault(history, ("all", 3, 1), lambda address: thing), None)
        self.same(forwarder_fault(history, ("all", 2, 1), lambda address: ("c", "a", "b")),
                  (("a", 2), ("c", "a", "b"), ("a", "b")))
        self.same(forwarder_fault(history, ("all", None, 0), lambda address: [address]), None)

    def test_what_they_raise_comes_out(self):
        with self.assertRaises(Gone):
            forwarder_fault(waiting(), ("all", None, 1), raises)
        with self.assertRaises(Gone):
            break_forwarder(waiting(), ("all", None, 1), raises)
        self.assertIsNone(forwarder_fault(waiting(), ("all", None, 1), raises, 0))
        self.refused(CanBeKept, None, break_forwarder, waiting(), ("all", None, 0), raises)

    def test_errors_in_their_order(self):
        history = waiting()
        for thing in junk():
            for call in (forwarder_fault, break_forwarder):
                self.refused(BadPromise, thing, call, history, thing, 1, -1)
        for thing in no_functions():
            for call in (forwarder_fault, break_forwarder):
                self.refused(BadFunction, thing, call, history, ("all", None, None), thing, -1)
        for thing in (-1, 5, True, "1", [1]):
            for call in (forwarder_fault, break_forwarder):
                self.refused(BadMoment, thing, call, history, ("all", None, None), raises, thing)
        told = break_forwarder(moment=4, forwarder=lambda address: (address,), promise=["all", None, 1], history=history)
        self.same(told, (("a", 2), ("a",), ("a", "b")))


def counting(rng, most):
    """A marker that tells now and then one more, else the word told last, and all that it was asked."""
    asked = []

    def marker(address, row, last):
        word = 0 if last is None else rng.choice((last, last, min(most, last + 1)))
        asked.append((address, list(row), last, word))
        row.clear()
        return word

    return marker, asked


def recorded(words):
    """A view that tells the words of holders."""
    return lambda address, moment: words[address, moment]


class Markers(Asking):
    def test_example(self):
        history = waiting()
        self.same(marker_fault(history, ("all", None, None), lambda address, row, last: 0),
                  (3, (("a", 1), ("a", 3))))
        self.same(marker_lasts(history, lambda address, row, last: 0), (3, ("a", 1), ("a", 3)))

    def test_asked_moment_by_moment(self):
        rng = random.Random(2020)
        for naive, history in random_histories(2021, 50):
            marker, asked = counting(rng, 3)
            words = marker_words(history, marker)
            self.assertEqual(list(words), naive.holders(None, naive.now))
            expected, last = [], {}
            for moment in range(naive.now + 1):
                for address in naive.addresses:
                    if naive.rows[moment][address]:
                        word = words[address, moment]
                        expected.append((address, stretches(naive.rows[moment][address]), last.get(address), word))
                        last[address] = word
            self.same(asked, expected)

    def test_faults(self):
        rng = random.Random(2022)
        met = set()
        for naive, history in random_histories(2023, 60):
            words = marker_words(history, counting(rng, 3)[0])
            for promise in promises()[::3]:
                expected = None
                for moment in range(naive.now + 1):
                    found = seen_clash(history, promise, recorded(words), moment)
                    if found is not None:
                        expected = (moment, found)
                        break
                self.same(marker_fault(history, promise, self.telling(naive, words)), expected)
                if expected is not None and isinstance(expected[1], tuple):
                    one, other = expected[1]
                    self.assertEqual((one[0], words[one]), (other[0], words[other]))
                met.add((expected is None, isinstance(expected, tuple) and isinstance(expected[1], list)))
        self.assertEqual(met, {(True, False), (False, False), (False, True)})

    def telling(self, naive, words):
        """The marker that tells these words once more, in the order in which it is asked."""
        order = [(address, moment) for moment in range(naive.now + 1) for address in naive.addresses
                 if naive.rows[moment][address]]
        left = [words[holder] for holder in order]
        return lambda address, row, last: left.pop(0)

    def test_lasts(self):
        rng = random.Random(2024)
        met = set()
        for naive, history in random_histories(2025, 60):
            words = marker_words(history, counting(rng, 9)[0])
            expected = None
            for moment in range(naive.now + 1):
                holders = naive.holders(None, moment)
                pairs = [(one, other) for one, other in itertools.combinations(holders, 2)
                         if one[0] == other[0] and words[one] == words[other]
                         and naive.living(one, moment) != naive.living(other, moment)]
                if pairs and expected is None:
                    expected = (moment, *pairs[0])
            self.same(marker_lasts(history, self.telling(naive, words)), expected)
            met.add(expected is None)
            if expected is not None:
                moment, one, other = expected
                self.assertNotEqual(living(history, one, moment), living(history, other, moment))
        self.assertEqual(met, {True, False})

    def test_fact_at_once_lasts(self):
        for naive, history in random_histories(2026, 80):
            marks = {address: at_once(history, address) for address in naive.addresses}
            words = {holder: marks[holder[0]][holder[1]] for holder in naive.holders(None, naive.now)}
            self.assertIsNone(marker_lasts(history, self.telling(naive, words)))
            for policy in ("all", "first", "most"):
                self.assertIsNone(marker_fault(history, (policy, None, None), self.telling(naive, words)))
                for moment in range(naive.now + 1):
                    for one, other in itertools.combinations(naive.holders(None, moment), 2):
                        if one[0] == other[0] and words[one] == words[other]:
                            dues = [due(history, holder, policy, moment) for holder in (one, other)]
                            self.assertEqual(dues[0], dues[1])

    def test_one_word_for_all_is_the_promise_itself(self):
        for naive, history in random_histories(2027, 40):
            for promise in promises()[::5]:
                told = marker_fault(history, promise, lambda address, row, last: "x")
                broken = [moment for moment in range(naive.now + 1) if not keeps(history, promise, moment)]
                self.assertEqual(None if told is None else told[0], broken[0] if broken else None)

    def test_words_are_integers_or_strings_alike_only_among_themselves(self):
        history = waiting()
        words = iter([1, "1", -7, 10 ** 30, 1, ""])
        told = marker_words(marker=lambda address, row, last: next(words), history=history)
        self.same(told, {("a", 1): 1, ("a", 2): "1", ("a", 3): -7, ("a", 4): 1, ("b", 3): 10 ** 30, ("b", 4): ""})
        asked = []

        def alternating(address, row, last):
            asked.append(last)
            return "1" if last == 1 else 1

        marker_lasts(history=history.ahead(3), marker=alternating)
        self.same(asked, [None, 1, "1", None])

    def test_no_words(self):
        history = waiting()
        calls = ((marker_words, ()), (marker_fault, (("all", None, None),)), (marker_lasts, ()))
        for thing in junk():
            if type(thing) not in (int, str):
                for call, rest in calls:
                    asked = []

                    def marker(address, row, last):
                        asked.append(address)
                        return 0 if len(asked) < 3 else thing

                    self.refused(NoWord, thing, call, history, *rest, marker)
                    self.assertEqual(asked, ["a", "a", "a"])
        for call, rest in calls:
            with self.assertRaises(Gone):
                call(history, *rest, raises)
            told = call(example().ahead(0), *rest, raises)
            self.same(told, {} if call is marker_words else None)

    def test_errors_in_their_order(self):
        history = waiting()
        for thing in junk():
            self.refused(BadPromise, thing, marker_fault, history, thing, 1)
        for thing in no_functions():
            self.refused(BadFunction, thing, marker_words, history, thing)
            self.refused(BadFunction, thing, marker_fault, history, ("all", None, None), thing)
            self.refused(BadFunction, thing, marker_lasts, history, thing)
        told = marker_fault(marker=lambda address, row, last: 0, promise=["all", None, None], history=history)
        self.same(told, (3, (("a", 1), ("a", 3))))


if __name__ == "__main__":
    unittest.main()
