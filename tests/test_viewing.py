import random
import unittest

from oldaddress.errors import BadMoment, BadPromise, BadView, NoWord
from oldaddress.holders import holders
from oldaddress.marks import lone_holders
from oldaddress.promises import clash, is_clash, table
from oldaddress.viewing import seen_clash, seen_table
from tests.asking import Asking, waiting
from tests.naive import junk, no_functions, promises, random_histories

CALLS = (seen_table, seen_clash)


def by_moment(address, moment):
    return moment


class Views(Asking):
    def test_example(self):
        view = lambda address, moment: 1 if moment >= 3 else 0
        expected = {("a", 0): ("a", "b"), ("a", 1): ("a",), ("b", 1): ("b",)}
        self.same(seen_table(waiting(), ("all", None, None), view), expected)
        self.assertIsNone(seen_clash(history=waiting(), promise=["all", None, None], view=view))

    def naive_table(self, naive, promise, words, moment):
        """The entries, looked for among all, and the first pair (address, word) that none serves."""
        groups = {}
        for holder, due in naive.comers(promise[0], promise[2], moment):
            groups.setdefault((holder[0], words[holder]), []).append((holder, due))
        entries = {}
        for key, group in groups.items():
            table = naive.table_for(promise[1], group)
            if table is None:
                return None, group
            entries[key] = table[key[0]]
        return entries, None

    def naive_clash(self, naive, promise, group):
        one, told = group[0]
        for other, due in group:
            if (told != due) if promise[1] is None else (bool(told) != bool(due)):
                return (one, other)
        pairs = []
        for name in naive.addresses:
            pairs += [(name, holder) for holder, due in group if name in due][:1]
        return pairs[:promise[1] + 1]

    def test_just_one(self):
        rng = random.Random(301)
        for naive, history in random_histories(301, 60):
            for promise in rng.sample(promises(), 12):
                moment = rng.randint(0, naive.now)
                words = {h: rng.choice((0, 1, "0", "", -5)) for h in naive.holders(None, naive.now)}
                view = lambda address, learned: words[address, learned]
                entries, group = self.naive_table(naive, promise, words, moment)
                told = seen_table(history, promise, view, moment)
                self.same(told, entries)
                if told is not None:
                    self.assertEqual(list(told), list(entries))
                    self.assertIsNone(seen_clash(history, promise, view, moment))
                else:
                    found = seen_clash(history, promise, view, moment)
                    self.same(found, self.naive_clash(naive, promise, group))
                    self.assertIs(is_clash(history, promise, found, moment), True)

    def test_one_word_for_all(self):
        for naive, history in random_histories(302, 30):
            for promise in promises():
                expected = table(history, promise)
                if expected is not None:
                    expected = {(address, ""): entry for address, entry in expected.items()}
                self.same(seen_table(history, promise, lambda address, moment: ""), expected)
                self.same(seen_clash(history, promise, lambda address, moment: ""), clash(history, promise))

    def test_moments_for_words(self):
        for naive, history in random_histories(303, 60):
            for promise in promises():
                lone = lone_holders(history, promise)
                self.assertIs(seen_table(history, promise, by_moment) is None, lone != [])
                if lone:
                    found = seen_clash(history, promise, by_moment)
                    self.assertEqual([holder for _, holder in found], [lone[0]] * (promise[1] + 1))

    def test_asked_once_for_each_in_their_order(self):
        for naive, history in random_histories(304, 30):
            for promise in (("all", None, None), ["first", 2, 1], ("most", 1, 0)):
                for moment in range(naive.now + 1):
                    for call in CALLS:
                        asked = []
                        view = lambda address, learned: asked.append((address, learned)) or 7
                        call(history, promise, view, moment)
                        self.same(asked, holders(history, promise[2], moment))

    def test_words(self):
        promise = ("all", None, None)
        for word in (0, -1, 10 ** 30, "", "a b", "\n"):
            self.same(list(seen_table(waiting(), ("all", 2, None), lambda a, m: word)), [("a", word), ("b", word)])
        for thing in [None, True, False, (), [], {}, (1,), ["a"], len, waiting()]:
            for call in CALLS:
                asked = []

                def view(address, moment):
                    asked.append((address, moment))
                    return thing if moment == 3 else 4

                self.refused(NoWord, thing, call, waiting(), promise, view)
                self.assertEqual(asked, [("a", 1), ("a", 2), ("a", 3)])

    def test_what_the_view_raises_comes_out(self):
        class Own(Exception):
            pass

        def view(address, moment):
            raise Own

        for call in CALLS:
            with self.assertRaises(Own):
                call(waiting(), ("all", None, None), view)
            self.assertEqual(call(waiting(), ("all", None, None), view, 0), {} if call is seen_table else None)

    def test_errors_in_their_order(self):
        word_of_none = lambda address, moment: None
        for call in CALLS:
            for thing in junk():
                self.refused(BadPromise, thing, call, waiting(), thing, None, "x")
            for thing in no_functions():
                self.refused(BadView, thing, call, waiting(), ("all", 1, 1), thing, "x")
            for thing in (-1, 5, True, "1", [1], {}):
                self.refused(BadMoment, thing, call, waiting(), ("all", 1, 1), word_of_none, thing)
            self.refused(NoWord, None, call, waiting(), ("all", 1, 1), word_of_none, 4)


if __name__ == "__main__":
    unittest.main()
