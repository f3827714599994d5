import unittest

from oldaddress.errors import BadPiece, NotMade
from oldaddress.histories import History
from oldaddress.lands import Land
from oldaddress.pieces import are_twins, families, holder_apart, track
from tests.asking import Asking, example
from tests.naive import all_histories, junk, random_histories, stretches


def naive_track(naive, piece):
    places = [naive.where(piece, moment) for moment in range(naive.now + 1)]
    steps = []
    for moment, place in enumerate(places):
        if place is not None and moment > 0 and places[moment - 1] == place:
            steps[-1] = (steps[-1][0], moment, place)
        elif place is not None:
            steps.append((moment, moment, place))
    return steps


class Tracks(Asking):
    def test_example(self):
        self.same(track(example(), 4), [(1, 1, "a"), (2, 4, "b")])
        self.same(track(example(), 1), [(1, 3, "a"), (4, 6, "b")])
        self.same(track(history=example(), piece=6), [(6, 6, "a")])

    def test_piece_by_piece(self):
        for naive, history in random_histories(11, 120):
            for piece in range(1, naive.made[-1] + 3):
                self.same(track(history, piece), naive_track(naive, piece))

    def test_never_made(self):
        self.same(track(example(), 7), [])
        self.same(track(example(), 10 ** 15), [])
        self.same(track(History(Land(["a", "b"], 1), []), 1), [])

    def test_back_again(self):
        deeds = [("make", "a", 1), ("move", "a", "b"), ("wait", 1), ("move", "b", "a"), ("end", "a")]
        history = History(Land(["a", "b"], 1), deeds)
        self.same(track(history, 1), [(1, 1, "a"), (2, 3, "b"), (4, 4, "a")])

    def test_bad_piece(self):
        for thing in (0, -1, True, False, None, "1", [1], (), {}, 0 - 10 ** 20):
            self.refused(BadPiece, thing, track, example(), thing)


class Families(Asking):
    def test_example(self):
        self.same(families(example()), [
            ([(1, 2)], [(1, 3, "a"), (4, 6, "b")]), ([(3, 3)], [(1, 1, "a"), (2, 6, "b")]),
            ([(4, 5)], [(1, 1, "a"), (2, 4, "b")]), ([(6, 6)], [(6, 6, "a")]),
        ])
        self.same(families(History(Land(["a", "b"], 1), [])), [])

    def check(self, naive, history):
        lots = {}
        for piece in range(1, naive.made[-1] + 1):
            lots.setdefault(tuple(naive_track(naive, piece)), []).append(piece)
        told = families(history)
        self.same(told, [(stretches(pieces), list(way)) for way, pieces in lots.items()])
        more = {"make": 1, "grow": 1, "cut": 1, "split": 1, "drop": 2}
        self.assertLessEqual(len(told), sum(more.get(deed[0], 0) for deed in naive.deeds))

    def test_piece_by_piece(self):
        for naive, history in random_histories(12, 150):
            self.check(naive, history)

    def test_small_ones_all(self):
        for naive, history in all_histories(["a", "b"], 3, 3):
            self.check(naive, history)

    def test_dropped_from_within(self):
        history = History(Land(["a", "b"], 9), [("make", "a", 5), ("drop", "a", 1, 2)])
        self.same(families(history), [([(1, 1), (4, 5)], [(1, 2, "a")]), ([(2, 3)], [(1, 1, "a")])])

    def test_gone_ahead_of_the_next_ones(self):
        history = History(Land(["a", "b"], 9), [("make", "a", 3), ("drop", "a", 2, 1), ("grow", "a", 2)])
        ways = [([(1, 2)], [(1, 3, "a")]), ([(3, 3)], [(1, 1, "a")]), ([(4, 5)], [(3, 3, "a")])]
        self.same(families(history), ways)

    def test_great_numbers(self):
        most = 10 ** 15
        deeds = [("make", "a", 10 ** 12), ("cut", "a", 1, "b"), ("drop", "b", 7, 10 ** 11), ("swap", "a", "b")]
        told = families(History(Land(["a", "b"], most), deeds))
        self.assertEqual([way[0] for way in told], [
            [(1, 1)], [(2, 8), (10 ** 11 + 9, 10 ** 12)], [(9, 10 ** 11 + 8)],
        ])


class Twins(Asking):
    def test_example(self):
        history = example()
        self.same(holder_apart(history, 1, 3), ("a", 2))
        self.same(holder_apart(history, 3, 4), ("b", 5))
        self.assertIsNone(holder_apart(history, 1, 2))
        self.assertIs(are_twins(history, 1, 2), True)
        self.assertIs(are_twins(history=history, one=1, other=3), False)

    def test_just_one(self):
        for naive, history in random_histories(13, 80):
            for one in range(1, naive.made[-1] + 1):
                for other in range(1, naive.made[-1] + 1):
                    alone = [
                        (address, moment) for moment in range(naive.now + 1) for address in naive.addresses
                        if (one in naive.rows[moment][address]) != (other in naive.rows[moment][address])
                    ]
                    self.assertIs(are_twins(history, one, other), not alone)
                    self.same(holder_apart(history, one, other), alone[0] if alone else None)

    def test_first_address_of_the_land(self):
        history = History(Land(["b", "a"], 2), [("make", "a", 2), ("cut", "a", 1, "b")])
        self.same(holder_apart(history, 1, 2), ("b", 2))
        self.same(holder_apart(history, 2, 1), ("b", 2))

    def test_errors_in_their_order(self):
        history = example()
        for call in (are_twins, holder_apart):
            self.refused(BadPiece, "x", call, history, "x", "y")
            self.refused(BadPiece, "y", call, history, 7, "y")
            self.refused(BadPiece, True, call, history, 1, True)
            self.refused(NotMade, 7, call, history, 7, 8)
            self.refused(NotMade, 10 ** 15, call, history, 6, 10 ** 15)
            for thing in junk():
                if thing not in (1, 2) or isinstance(thing, bool):
                    error = NotMade if type(thing) is int and thing > 0 else BadPiece
                    self.refused(error, thing, call, history, thing, 1)
                    self.refused(error, thing, call, history, 1, thing)


if __name__ == "__main__":
    unittest.main()
