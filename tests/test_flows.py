import unittest

from oldaddress.errors import BadMoment, BadTimes, NoAddress
from oldaddress.flows import flow, known_as, known_wholly, scaled, went
from oldaddress.histories import History
from oldaddress.holders import due, holders, living
from oldaddress.lands import Land
from oldaddress.pieces import families, track
from tests.asking import Asking, example
from tests.naive import all_histories, random_histories, stretches


def naive_went(naive, address, moment, later):
    parts = []
    for piece in naive.rows[moment][address]:
        place = naive.where(piece, later)
        if parts and parts[-1][1] + 1 == piece and parts[-1][2] == place:
            parts[-1] = (parts[-1][0], piece, place)
        else:
            parts.append((piece, piece, place))
    return parts


def naive_flow(naive, moment, later):
    counts = {}
    for piece in range(1, naive.made[later] + 1):
        pair = (naive.where(piece, moment), naive.where(piece, later))
        counts[pair] = counts.get(pair, 0) + 1
    order = naive.addresses + [None]
    return {(a, b): counts[a, b] for a in order for b in order if (a, b) in counts and (a, b) != (None, None)}


def naive_known(naive, address, moment, wholly):
    found = {}
    for name in naive.addresses:
        moments = []
        for earlier in range(moment + 1):
            places = {naive.where(piece, moment) for piece in naive.rows[earlier][name]} - {None}
            if places == {address} or (address in places and not wholly):
                moments.append(earlier)
        if moments:
            found[name] = stretches(moments)
    return found


class Went(Asking):
    def test_example(self):
        self.same(went(example(), "a", 1), [(1, 3, "b"), (4, 5, None)])
        self.same(went(history=example(), address="a", moment=1, later=2), [(1, 2, "a"), (3, 5, "b")])
        self.same(went(example(), "c", 1), [])

    def test_piece_by_piece(self):
        for naive, history in random_histories(21, 120):
            for moment in range(naive.now + 1):
                for later in range(moment, naive.now + 1):
                    for address in naive.addresses:
                        told = went(history, address, moment, later)
                        self.same(told, naive_went(naive, address, moment, later))

    def test_none_is_now(self):
        for naive, history in random_histories(22, 20):
            self.same(went(history, "a", 0), went(history, "a", 0, naive.now))

    def test_as_long_as_can_be_across_what_lies_turned_round(self):
        deeds = [("make", "a", 4), ("cut", "a", 2, "b"), ("pour", "a", "b")]
        history = History(Land(["a", "b"], 4), deeds)
        self.same(history.row("b"), [(3, 4), (1, 2)])
        self.same(went(history, "a", 1), [(1, 4, "b")])

    def test_errors_in_their_order(self):
        history = example()
        self.refused(NoAddress, "x", went, history, "x", "y", "z")
        self.refused(BadMoment, "y", went, history, "a", "y", "z")
        self.refused(BadMoment, None, went, history, "a", None, "z")
        self.refused(BadMoment, "z", went, history, "a", 1, "z")
        self.refused(BadMoment, 2, went, history, "a", 3, 2)
        self.refused(BadMoment, True, went, history, "a", True)
        self.refused(BadMoment, 7, went, history, "a", 0, 7)


class Flow(Asking):
    def test_example(self):
        told = flow(example(), 2)
        self.same(told, {("a", "b"): 2, ("b", "b"): 1, ("b", None): 2, (None, "a"): 1})

    def test_piece_by_piece(self):
        for naive, history in random_histories(23, 120):
            for moment in range(naive.now + 1):
                for later in range(moment, naive.now + 1):
                    told = flow(history, moment, later)
                    self.same(told, naive_flow(naive, moment, later))
                    for address in naive.addresses:
                        had = sum(n for (one, _), n in told.items() if one == address)
                        has = sum(n for (_, other), n in told.items() if other == address)
                        self.assertEqual(had, len(naive.rows[moment][address]))
                        self.assertEqual(has, len(naive.rows[later][address]))
                self.same(flow(history=history, moment=moment), flow(history, moment, naive.now))

    def test_made_since_and_gone_since(self):
        history = History(Land(["b", "a"], 9), [("make", "a", 2), ("grow", "a", 3), ("drop", "a", 1, 2)])
        self.same(flow(history, 1), {("a", "a"): 1, ("a", None): 1, (None, "a"): 2})
        self.same(flow(history, 0), {(None, "a"): 3})

    def test_errors_in_their_order(self):
        history = example()
        self.refused(BadMoment, None, flow, history, None)
        self.refused(BadMoment, "y", flow, history, "y", "z")
        self.refused(BadMoment, "z", flow, history, 1, "z")
        self.refused(BadMoment, 2, flow, history, 3, 2)


class Known(Asking):
    def test_example(self):
        self.same(known_as(example(), "b"), {"a": [(1, 3)], "b": [(2, 6)]})
        self.same(known_wholly(example(), "b"), {"a": [(1, 3)], "b": [(2, 6)]})
        self.same(known_wholly(example(), "b", 2), {"b": [(2, 2)]})
        self.same(known_as(example(), "b", 2), {"a": [(1, 1)], "b": [(2, 2)]})

    def test_piece_by_piece(self):
        for naive, history in random_histories(24, 120):
            for moment in range(naive.now + 1):
                for address in naive.addresses:
                    some = known_as(history, address, moment)
                    self.same(some, naive_known(naive, address, moment, False))
                    self.assertEqual(list(some), [a for a in naive.addresses if a in some])
                    self.same(known_wholly(history, address, moment), naive_known(naive, address, moment, True))
            self.same(known_as(history=history, address="a"), known_as(history, "a", naive.now))
            self.same(known_wholly(history=history, address="a"), known_wholly(history, "a", naive.now))

    def test_every_table_read_backward(self):
        for naive, history in all_histories(["a", "b"], 2, 3):
            for address in naive.addresses:
                some = known_as(history, address)
                wholly = known_wholly(history, address)
                for holder in holders(history, None):
                    told = due(history, holder, "all")
                    spans = some.get(holder[0], [])
                    self.assertIs(address in told, any(a <= holder[1] <= b for a, b in spans))
                    spans = wholly.get(holder[0], [])
                    self.assertIs(told == (address,), any(a <= holder[1] <= b for a, b in spans))

    def test_errors_in_their_order(self):
        for call in (known_as, known_wholly):
            for thing in ("x", None, 1, ["a"], {}):
                self.refused(NoAddress, thing, call, example(), thing, "no moment")
            for thing in ("x", -1, 7, True, [1]):
                self.refused(BadMoment, thing, call, example(), "a", thing)


class Scaled(Asking):
    def test_pieces_are_as_many_pieces(self):
        for naive, history in random_histories(25, 40, 7):
            for pieces, days in ((1, 1), (3, 1), (1, 4), (2, 5), (10 ** 12, 10 ** 12)):
                greater = scaled(history, pieces, days)
                self.assertEqual(greater.land().most(), naive.most * pieces)
                for piece in range(1, naive.made[-1] + 1):
                    for part in ((piece - 1) * pieces + 1, piece * pieces):
                        self.same(track(greater, part), track(history, piece))
                self.assertEqual(len(families(greater)), len(families(history)))
                for holder in holders(history, None):
                    self.assertEqual(due(greater, holder, "most"), due(history, holder, "most"))
                    parts = [((a - 1) * pieces + 1, b * pieces) for a, b in living(history, holder)]
                    self.assertEqual(living(greater, holder), parts)
                self.same(flow(greater, 0), {pair: n * pieces for pair, n in flow(history, 0).items()})

    def test_ages(self):
        for naive, history in random_histories(26, 40):
            greater = scaled(history, 2, 5)
            for learned in range(naive.now + 1):
                for moment in range(learned, naive.now + 1):
                    age = history.age(learned, moment)
                    waits = learned < naive.now and naive.deeds[learned][0] == "wait"
                    expected = (age - 1) * 5 + 1 if waits and age != 0 else age * 5
                    self.assertEqual(greater.age(learned, moment), expected)

    def test_deeds(self):
        deeds = [("make", "a", 4), ("drop", "a", 0, 1), ("cut", "a", 2, "b"), ("wait", 2), ("split", "a", 1, "c", "d")]
        history = History(Land(["a", "b", "c", "d"], 9), deeds)
        self.same(scaled(history=history, pieces=3, days=7).deeds(), [
            ("make", "a", 12), ("drop", "a", 0, 3), ("cut", "a", 6, "b"), ("wait", 14), ("split", "a", 3, "c", "d"),
        ])

    def test_errors_in_their_order(self):
        for thing in (0, -1, True, None, "2", [2], {}):
            self.refused(BadTimes, thing, scaled, example(), thing, "days")
            self.refused(BadTimes, thing, scaled, example(), 1, thing)


if __name__ == "__main__":
    unittest.main()
