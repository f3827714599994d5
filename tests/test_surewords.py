import itertools
import unittest

from oldaddress.deedforms import FORMS
from oldaddress.errors import BadLand, BadPromise, BadWord
from oldaddress.lands import Land
from oldaddress.promises import keeps
from oldaddress.surewords import breaking, sure_words
from tests.asking import Asking
from tests.naive import POLICIES, Naive, junk, met_states, ways_of

TWO = Land(["a", "b"], 2)
WORDS = ["make", "grow", "move", "swap", "cut", "split", "pour", "drop", "end", "wait"]


class SureWords(Asking):
    def test_example(self):
        self.same(sure_words(TWO, ("first", None, 0)), ["grow", "split", "pour", "wait"])
        history, deed = breaking(TWO, ("first", None, 0), "swap")
        self.same(history.deeds(), [("make", "a", 1), ("make", "b", 1)])
        self.same(deed, ("swap", "a", "b"))
        self.assertIsNone(breaking(land=TWO, promise=["first", None, 0], word="grow"))
        self.assertEqual(list(FORMS), WORDS)

    def naive_breaking(self, met, promise):
        """The dict from words to the first pair, looked for among all states, each by its first history."""
        found = {}
        for naive in met.values():
            if naive.keeps(promise):
                for deed in naive.small_steps():
                    if deed[0] not in found and not naive.then(deed).keeps(promise):
                        found[deed[0]] = (naive.deeds, deed)
        return found

    def test_just_one(self):
        for addresses, most, lives in (
            (["b", "a"], 1, (None, 0, 1, 2)), (["a", "b"], 2, (0, None)), (["c", "a", "b"], 1, (None, 0)),
        ):
            land = Land(addresses, most)
            for life in lives:
                met = met_states(addresses, most, life)
                for policy, width in itertools.product(POLICIES, (None, 1, 2)):
                    promise = (policy, width, life)
                    expected = self.naive_breaking(met, promise)
                    self.same(sure_words(land, promise), [word for word in WORDS if word not in expected])
                    for word in WORDS:
                        self.check(land, promise, word, expected.get(word))

    def check(self, land, promise, word, expected):
        told = breaking(land, promise, word)
        if expected is None:
            self.assertIsNone(told)
            return
        history, deed = told
        self.assertIs(type(told), tuple)
        self.assertEqual(history.land(), land)
        self.same((history.deeds(), deed), (expected[0], expected[1]))
        self.assertIs(keeps(history, promise), True)
        self.assertIs(keeps(history.then(deed), promise), False)

    def test_no_shorter_way_and_none_ahead(self):
        """All ways of up to three deeds, none left out as one comes to the same by it."""
        for promise in (("all", None, 1), ("first", 1, 0), ("most", 2, None)):
            met = {}
            for way, naive in ways_of(Naive(["a", "b"], 2, []), lambda naive: naive.small_steps(), 3):
                if naive.keeps(promise):
                    for deed in naive.small_steps():
                        if deed[0] not in met and not naive.then(deed).keeps(promise):
                            met[deed[0]] = (way, deed)
            for word, (way, deed) in met.items():
                history, told = breaking(TWO, promise, word)
                self.same((history.deeds(), told), (way, deed))

    def test_facts(self):
        for land in (TWO, Land(["a", "b"], 1), Land(["b", "c", "a"], 1)):
            for policy, life in itertools.product(POLICIES, (None, 0, 1)):
                told = sure_words(land=land, promise=(policy, None, life))
                if policy != "most":
                    self.assertLessEqual({"grow", "pour", "wait"}, set(told))
                self.assertEqual("swap" in told, land.most() < 2)

    def test_errors_in_their_order(self):
        for thing in junk():
            if not isinstance(thing, Land):
                self.refused(BadLand, thing, sure_words, thing, "x")
                self.refused(BadLand, thing, breaking, thing, "x", "x")
            self.refused(BadPromise, thing, sure_words, TWO, thing)
            self.refused(BadPromise, thing, breaking, TWO, thing, "x")
            if thing != "wait":
                self.refused(BadWord, thing, breaking, Land(["a", "b"], 1), ("all", 1, 1), thing)

    def test_words_that_no_dict_can_look_up(self):
        for thing in ([], {}, ["swap"], {"swap": 1}, ("swap", []), ([],), Land(["a", "b"], 1), "Swap", "swap "):
            self.refused(BadWord, thing, breaking, TWO, ("first", None, 0), thing)
        for word in WORDS:
            told = breaking(TWO, ("first", None, 0), word)
            self.assertEqual(told is None, word in sure_words(TWO, ("first", None, 0)))


if __name__ == "__main__":
    unittest.main()
