import itertools
import unittest

from oldaddress.answers import dues_of
from oldaddress.errors import BadPromise, CannotBeDone
from oldaddress.inway import in_way, lots_in_way
from oldaddress.promises import clash, keeps
from tests.asking import Asking, example, waiting
from tests.naive import junk, promises, random_histories, stretches


def naive_lots(naive, promise):
    """The lots of all addresses that no entry there can be serves."""
    policy, width, life = promise
    found = {}
    for address in naive.addresses:
        comers = [(holder, due) for holder, due in naive.comers(policy, life, naive.now) if holder[0] == address]
        if comers and naive.table_for(width, comers) is None:
            lots = {}
            for holder, due in comers:
                lots.setdefault(due, []).append(holder[1])
            found[address] = []
            for due, moments in lots.items():
                found[address].append((due, stretches(moments)))
    return found


class InTheWay(Asking):
    def test_example(self):
        self.same(lots_in_way(example(), ("all", None, None)), {"a": [(("b",), [(1, 3)]), (("a",), [(6, 6)])]})

    def test_lots(self):
        broken = kept = 0
        for naive, history in random_histories(1410, 60):
            for promise in promises():
                told = lots_in_way(history, promise)
                self.same(told, naive_lots(naive, promise))
                self.assertEqual(told == {}, keeps(history, promise))
                for address in told:
                    self.same(told[address], dues_of(history, address, promise[0], promise[2]))
                if told:
                    first = clash(history, promise)
                    holder = first[0] if isinstance(first, tuple) else first[0][1]
                    self.assertEqual(holder[0], list(told)[0])
                broken += told != {}
                kept += told == {}
        self.assertGreater(min(broken, kept), 300)

    def test_behind_deeds(self):
        for naive, history in random_histories(1411, 25, 5):
            for deed, promise in itertools.product(naive.small_steps(), promises()[::7]):
                self.same(in_way(history, deed, promise), naive_lots(naive.then(deed), promise))

    def test_told_anew(self):
        history = example()
        told = lots_in_way(history, ["all", None, None])
        told["a"].clear()
        told.clear()
        self.same(list(lots_in_way(promise=("all", None, None), history=history)), ["a"])
        self.same(in_way(promise=("all", None, 1), deed=["move", "a", "c"], history=waiting()),
                  in_way(waiting(), ("move", "a", "c"), ("all", None, 1)))

    def test_errors_in_their_order(self):
        history = example()
        for thing in junk():
            self.refused(BadPromise, thing, lots_in_way, history, thing)
            self.refused(BadPromise, thing, in_way, history, ("wait", 1), thing)
            self.refused(CannotBeDone, thing, in_way, history, thing, "x")
        for deed in (("make", "a", 1), ("grow", "a", 6), ("cut", "a", 1, "c"), ["end", "c"], ("wait", 0), ("end", "d")):
            self.refused(CannotBeDone, deed, in_way, history, deed, ("all", None, 1))


if __name__ == "__main__":
    unittest.main()
