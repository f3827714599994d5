import unittest

from oldaddress.errors import BadHolder, BadLife, BadMoment, BadPolicy
from oldaddress.histories import History
from oldaddress.holders import due, holders, is_holder, living, piece_due, shares
from oldaddress.lands import Land
from tests.asking import Asking, example
from tests.naive import POLICIES, all_histories, junk, random_histories, stretches


class Holders(Asking):
    def test_example(self):
        young = [("a", 3), ("a", 6), ("b", 3), ("b", 4), ("b", 5), ("b", 6)]
        self.same(holders(example(), 0), young)
        older = [("a", 2), ("a", 3), ("a", 6), ("b", 2), ("b", 3), ("b", 4), ("b", 5), ("b", 6)]
        self.same(holders(example(), 1), older)
        self.same(holders(example(), 2), older)
        self.same(holders(history=example(), life=3), [("a", 1)] + older)
        self.same(holders(example(), None), holders(example(), 3))
        self.same(holders(example(), 10 ** 13, moment=1), [("a", 1)])
        self.same(holders(example(), None, 0), [])

    def test_all(self):
        for naive, history in random_histories(31, 100):
            for moment in range(naive.now + 1):
                for life in (None, 0, 1, 2, 3, 5):
                    self.same(holders(history, life, moment), naive.holders(life, moment))
            self.same(holders(history, 1), holders(history, 1, naive.now))

    def test_errors_in_their_order(self):
        for thing in (-1, True, False, "1", [1], {}, len, "all"):
            self.refused(BadLife, thing, holders, example(), thing, "no moment")
        for thing in (-1, 7, True, "1", [1], {}):
            self.refused(BadMoment, thing, holders, example(), None, thing)

    def test_is_holder(self):
        history = example()
        told = holders(history, None)
        for address in ("a", "b", "c", "x", None, ["a"], ("a", 1)):
            for moment in (0, 1, 2, 3, 4, 5, 6, 7, -1, True, False, None, "1"):
                expected = type(moment) is int and (address, moment) in told
                self.assertIs(is_holder(history, (address, moment)), expected)
                self.assertIs(is_holder(history=history, thing=[address, moment]), expected)
        for thing in junk():
            self.assertIs(is_holder(history, thing), thing == ["a", 1])
            self.assertIs(is_holder(history, ("a", 1, thing)), False)


class Living(Asking):
    def test_example(self):
        self.same(living(example(), ("b", 4)), [(3, 3), (1, 2)])
        self.same(living(history=example(), holder=["b", 4], moment=4), [(3, 5), (1, 2)])
        self.same(shares(example(), ("b", 4)), {"b": 3})
        self.same(shares(example(), ("a", 1), 2), {"a": 2, "b": 3})

    def test_piece_by_piece(self):
        for naive, history in random_histories(32, 100):
            for moment in range(naive.now + 1):
                for holder in naive.holders(None, moment):
                    row = naive.living(holder, moment)
                    self.same(living(history, holder, moment), stretches(row))
                    places = [naive.where(piece, moment) for piece in row]
                    counts = {a: places.count(a) for a in naive.addresses if a in places}
                    told = shares(history, list(holder), moment)
                    self.same(told, counts)
            for holder in naive.holders(None, naive.now):
                self.same(living(history, holder), living(history, holder, None))
                self.same(shares(history, holder), shares(history=history, holder=holder, moment=naive.now))

    def test_neighbours_meet_when_what_stood_between_is_gone(self):
        deeds = [
            ("make", "a", 2), ("make", "b", 1), ("make", "c", 1), ("pour", "b", "a"), ("pour", "c", "a"),
            ("drop", "a", 2, 1), ("grow", "a", 1), ("drop", "a", 2, 1),
        ]
        history = History(Land(["a", "b", "c"], 9), deeds)
        self.same(living(history, ("a", 5), 5), [(1, 4)])
        self.same(living(history, ("a", 5), 6), [(1, 2), (4, 4)])
        self.same(living(history, ("a", 5)), [(1, 2)])
        apart = [("make", "a", 1), ("make", "b", 1), ("grow", "a", 1), ("pour", "b", "a"), ("drop", "a", 0, 1)]
        turned = History(Land(["a", "b"], 9), apart[:4] + [("drop", "a", 1, 1)])
        self.same(living(turned, ("a", 4)), [(1, 2)])
        self.same(living(History(Land(["a", "b"], 9), apart), ("a", 4)), [(3, 3), (2, 2)])

    def test_drop_and_end_alone_change_it(self):
        for naive, history in random_histories(33, 60):
            for moment, deed in enumerate(naive.deeds):
                if deed[0] not in ("drop", "end"):
                    for holder in naive.holders(None, moment):
                        self.same(living(history, holder, moment), living(history, holder, moment + 1))


class Dues(Asking):
    def test_example(self):
        for policy in POLICIES:
            self.same(due(example(), ("b", 4), policy), ("b",))
        self.same(due(history=example(), holder=("a", 1), policy="all", moment=2), ("a", "b"))
        self.same(due(example(), ("a", 1), "first", 2), ("a",))
        self.same(due(example(), ("a", 1), "most", 2), ("b",))

    def check(self, naive, history):
        for moment in range(naive.now + 1):
            for holder in naive.holders(None, moment):
                dues = [due(history, holder, policy, moment) for policy in POLICIES]
                self.same(dues, [naive.due(holder, policy, moment) for policy in POLICIES])
                if holder[1] == moment:
                    self.assertEqual(dues, [(holder[0],)] * 3)
                self.assertTrue(set(dues[1]) | set(dues[2]) <= set(dues[0]))

    def test_piece_by_piece(self):
        for naive, history in random_histories(34, 150):
            self.check(naive, history)

    def test_small_ones_all(self):
        for naive, history in all_histories(["a", "b"], 3, 3):
            self.check(naive, history)

    def test_most_alike_at_two_is_the_first_of_the_land(self):
        deeds = [("make", "a", 4), ("cut", "a", 2, "b")]
        self.same(due(History(Land(["a", "b"], 4), deeds), ("a", 1), "most"), ("a",))
        self.same(due(History(Land(["b", "a"], 4), deeds), ("a", 1), "most"), ("b",))
        self.same(due(History(Land(["b", "a"], 4), deeds), ("a", 1), "first"), ("a",))
        self.same(due(History(Land(["b", "a"], 4), deeds), ("a", 1), "all"), ("b", "a"))

    def test_gone(self):
        history = History(Land(["a", "b"], 4), [("make", "a", 4), ("end", "a"), ("make", "a", 1)])
        for policy in POLICIES:
            self.same(due(history, ("a", 1), policy), ())
        self.same(living(history, ("a", 1)), [])
        self.same(shares(history, ("a", 1)), {})

    def test_errors_in_their_order(self):
        history = example()
        for thing in junk():
            if thing == ["a", 1]:
                continue
            self.refused(BadHolder, thing, living, history, thing, "no moment")
            self.refused(BadHolder, thing, shares, history, thing, "no moment")
            self.refused(BadHolder, thing, due, history, thing, "no policy", "no moment")
            self.refused(BadHolder, thing, piece_due, history, thing, "no moment")
            if thing != "all":
                self.refused(BadPolicy, thing, due, history, ("a", 1), thing, "no moment")
        for thing in ("x", 7, -1, True, [2], {}, 2, 1):
            self.refused(BadMoment, thing, living, history, ("a", 3), thing)
            self.refused(BadMoment, thing, shares, history, ("a", 3), thing)
            self.refused(BadMoment, thing, due, history, ("a", 3), "all", thing)
            self.refused(BadMoment, thing, piece_due, history, ("a", 3, 1), thing)


class PieceDues(Asking):
    def test_piece_by_piece(self):
        for naive, history in random_histories(35, 80):
            for moment in range(naive.now + 1):
                for holder in naive.holders(None, moment):
                    places = []
                    for piece in naive.meant(holder):
                        place = naive.where(piece, moment)
                        told = piece_due(history, (*holder, piece), moment)
                        self.same(told, () if place is None else (place,))
                        places += told
                    self.assertEqual(set(places), set(due(history, holder, "all", moment)))
                    self.assertTrue(set(due(history, holder, "first", moment)) <= set(places))

    def test_what_is_none(self):
        history = example()
        self.same(piece_due(history, ["a", 2, 2]), ("b",))
        self.same(piece_due(history=history, holder=("b", 2, 4), moment=2), ("b",))
        self.same(piece_due(history, ("b", 2, 4)), ())
        for thing in [
            ("a", 2, 3), ("b", 2, 1), ("a", 2, True), ("a", 1, 6), ("a", 1, 0), ("a", 1), ("a", 1, None),
            ("a", 1, [1]), ("a", 0, 1), ("x", 1, 1), ("a", True, 1), ("a", 1, 1, 1), (["a"], 1, 1), (("a", 1), 1),
        ]:
            self.refused(BadHolder, thing, piece_due, history, thing)


if __name__ == "__main__":
    unittest.main()
