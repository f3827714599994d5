import unittest

from oldaddress.answers import dues_of, learned_when
from oldaddress.errors import BadDue, BadLife, BadMoment, BadPolicy, NoAddress
from oldaddress.flows import known_as
from oldaddress.histories import History
from oldaddress.lands import Land
from tests.asking import Asking, example
from tests.naive import POLICIES, junk, random_histories, stretches


class Dues(Asking):
    def test_example(self):
        self.same(dues_of(example(), "a", "all", None), [(("b",), [(1, 3)]), (("a",), [(6, 6)])])
        self.same(learned_when(example(), "a", ("b",), "all", None), [(1, 3)])
        self.same(dues_of(history=example(), address="a", policy="all", life=1, moment=6), [
            (("b",), [(2, 3)]), (("a",), [(6, 6)]),
        ])
        self.same(dues_of(example(), "c", "first", None), [])

    def test_moment_by_moment(self):
        for naive, history in random_histories(41, 80):
            for moment in range(naive.now + 1):
                for address in naive.addresses:
                    for policy in POLICIES:
                        for life in (None, 0, 1, 3):
                            lots = {}
                            for holder in naive.holders(life, moment):
                                if holder[0] == address:
                                    lots.setdefault(naive.due(holder, policy, moment), []).append(holder[1])
                            told = dues_of(history, address, policy, life, moment)
                            self.same(told, [(due, stretches(learned)) for due, learned in lots.items()])
                            for due, spans in told:
                                same = learned_when(history, address, list(due), policy, life, moment)
                                self.same(same, spans)

    def test_free_moments_and_other_dues_part_stretches(self):
        land = Land(["a", "b", "c"], 9)
        deeds = [("make", "a", 1), ("move", "a", "b"), ("wait", 1), ("move", "b", "a"), ("end", "a"), ("make", "a", 1)]
        history = History(land, deeds)
        self.same(dues_of(history, "a", "all", None), [((), [(1, 1), (4, 4)]), (("a",), [(6, 6)])])
        self.same(learned_when(history, "a", (), "all", None), [(1, 1), (4, 4)])
        self.same(learned_when(history, "a", ["a"], "first", None), [(6, 6)])
        self.same(learned_when(history, "a", ("b", "c"), "first", None), [])
        swaps = History(land, [("make", "a", 1), ("make", "b", 1)] + [("swap", "a", "b")] * 3)
        told = [(("b",), [(1, 2), (4, 4)]), (("a",), [(3, 3), (5, 5)])]
        self.same(dues_of(swaps, "a", "all", None), told)

    def test_who_is_due_where_is_known_as(self):
        for naive, history in random_histories(42, 40):
            for moment in range(naive.now + 1):
                for one in naive.addresses:
                    known = known_as(history, one, moment)
                    for address in naive.addresses:
                        moments = []
                        for due, spans in dues_of(history, address, "all", None, moment):
                            if one in due:
                                moments += [m for a, b in spans for m in range(a, b + 1)]
                        self.same(stretches(sorted(moments)), known.get(address, []))

    def test_errors_in_their_order(self):
        history = example()
        for thing in junk():
            if thing not in ("a", ["a"]):
                self.refused(NoAddress, thing, dues_of, history, thing, "x", "y", "z")
                self.refused(NoAddress, thing, learned_when, history, thing, None, "x", "y", "z")
            if thing not in ([], (), ["a"], ("a",)):
                self.refused(BadDue, thing, learned_when, history, "a", thing, "x", "y", "z")
            if thing != "all":
                self.refused(BadPolicy, thing, dues_of, history, "a", thing, "y", "z")
                self.refused(BadPolicy, thing, learned_when, history, "a", [], thing, "y", "z")
        for thing in (-1, True, "1", [1], {}):
            self.refused(BadLife, thing, dues_of, history, "a", "all", thing, "z")
            self.refused(BadLife, thing, learned_when, history, "a", (), "all", thing, "z")
            self.refused(BadMoment, thing, dues_of, history, "a", "all", 0, thing)
            self.refused(BadMoment, thing, learned_when, history, "a", (), "all", 0, thing)
        for thing in (("b", "a"), ("a", "a"), ("x",), "a", ("a", ["b"]), ("a", None)):
            self.refused(BadDue, thing, learned_when, history, "a", thing, "all", 0)


if __name__ == "__main__":
    unittest.main()
