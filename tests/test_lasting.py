import random
import unittest

from oldaddress.errors import BadLife, BadMoment, BadTurn, NoAddress
from oldaddress.histories import History, deeds_now
from oldaddress.lands import Land
from oldaddress.lasting import at_once, lasting_lots, lasting_marks, least_turn, turn_clash
from tests.asking import Asking, waiting
from tests.naive import POLICIES, all_histories, junk, random_histories


def learned(naive, address, moment):
    """The dict from the moments at which an address was not free to what lives of what lay there."""
    return {m: naive.living((address, m), moment) for m in range(moment + 1) if naive.rows[m][address]}


class Lasting(Asking):
    def test_example(self):
        history = waiting()
        self.same(lasting_marks(history, "a"), [(1, 2), (3, 4)])
        self.same(lasting_lots(history=history, address="a"), [[1, 2], [3, 4]])
        self.same(at_once(history, "a"), {1: 0, 2: 0, 3: 1, 4: 1})
        self.same(at_once(history=history, address="c"), {})
        self.assertEqual(least_turn(history, 0), 2)
        self.same(turn_clash(history, 0, 1), (3, ("a", 2), ("a", 3)))
        self.assertIsNone(turn_clash(history=history, life=0, k=2))

    def test_stretches_and_lots(self):
        for naive, history in random_histories(331, 120):
            for address in naive.addresses:
                for moment in range(naive.now + 1):
                    rows = learned(naive, address, moment)
                    stretches, lots = [], []
                    for m, row in rows.items():
                        if stretches and rows[stretches[-1][0]] == row:
                            stretches[-1] = (stretches[-1][0], m)
                        else:
                            stretches.append((m, m))
                        for lot in lots:
                            if rows[lot[0]] == row:
                                lot.append(m)
                                break
                        else:
                            lots.append([m])
                    self.same(lasting_marks(history, address, moment), stretches)
                    self.same(lasting_lots(history, address, moment), lots)
                self.same(lasting_marks(history, address), lasting_marks(history, address, naive.now))
                self.same(lasting_lots(history, address), lasting_lots(history, address, naive.now))

    def test_stretches_go_on_where_the_address_was_free(self):
        deeds = [("make", "a", 1), ("end", "a"), ("make", "a", 1), ("end", "a")]
        history = History(Land(["a", "b"], 3), deeds)
        self.same(lasting_marks(history, "a"), [(1, 3)])
        self.same(lasting_lots(history, "a"), [[1, 3]])
        self.same(lasting_marks(history, "a", 3), [(1, 1), (3, 3)])
        self.same(at_once(history, "a"), {1: 0, 3: 1})

    def test_a_row_that_comes_again(self):
        deeds = [("make", "a", 1), ("make", "b", 1), ("swap", "a", "b"), ("swap", "a", "b")]
        history = History(Land(["a", "b"], 3), deeds)
        self.same(lasting_marks(history, "a"), [(1, 2), (3, 3), (4, 4)])
        self.same(lasting_lots(history, "a"), [[1, 2, 4], [3]])
        self.same(at_once(history, "a"), {1: 0, 2: 0, 3: 1, 4: 2})

    def test_told_at_once(self):
        for naive, history in random_histories(332, 100):
            for address in naive.addresses:
                marks = at_once(history, address)
                expected, last = {}, None
                for m in range(naive.now + 1):
                    row = naive.rows[m][address]
                    if row and last is None:
                        expected[m] = 0
                    elif row:
                        left = [piece for piece in naive.rows[last][address] if naive.where(piece, m)]
                        expected[m] = expected[last] + (left != row)
                    last = m if row else last
                self.same(marks, expected)
                for moment in range(naive.now + 1):
                    rows = learned(naive, address, moment)
                    for one in rows:
                        for other in rows:
                            if marks[one] == marks[other]:
                                self.assertEqual(rows[one], rows[other])
                self.check_new_ones(naive, address, marks)

    def check_new_ones(self, naive, address, marks):
        """Told only behind a deed that names the address, never behind a drop or a wait; and wherever it must be."""
        for m in marks:
            if m - 1 in marks and marks[m] != marks[m - 1]:
                self.assertIn(address, naive.deeds[m - 1])
                self.assertNotIn(naive.deeds[m - 1][0], ("drop", "wait"))
                rows = learned(naive, address, m)
                self.assertNotEqual(rows[m - 1], rows[m])

    def test_lasting_ones_are_alike_for_ever(self):
        for naive, history in random_histories(333, 25, 6):
            address = naive.addresses[0]
            lots = lasting_lots(history, address)
            for deed in deeds_now(history, [0, 1, 2]):
                later = naive.then(deed)
                for lot in lots:
                    for policy in POLICIES:
                        dues = {later.due((address, m), policy, later.now) for m in lot}
                        self.assertEqual(len(dues), 1)

    def turn_clashes(self, naive, history, life, k):
        for moment in range(naive.now + 1):
            told = naive.holders(life, moment)
            for index, one in enumerate(told):
                for other in told[index + 1:]:
                    marks = at_once(history, one[0])
                    alike = one[0] == other[0] and marks[one[1]] % k == marks[other[1]] % k
                    if alike and naive.living(one, moment) != naive.living(other, moment):
                        return (moment, one, other)
        return None

    def check_turns(self, naive, history, life):
        enough = []
        for k in range(1, 7):
            expected = self.turn_clashes(naive, history, life, k)
            self.same(turn_clash(history, life, k), expected)
            if expected is None:
                enough.append(k)
        told = least_turn(history, life)
        if enough:
            self.assertEqual(told, enough[0])
        else:
            self.assertGreater(told, 6)
        self.assertIsNone(turn_clash(history, life, told))
        most = 1
        for moment in range(naive.now + 1):
            for address in naive.addresses:
                marks = at_once(history, address)
                most = max(most, len({marks[m] for a, m in naive.holders(life, moment) if a == address}))
        self.assertIsNone(turn_clash(history, life, most))
        return told

    def test_turns(self):
        told = set()
        for naive, history in random_histories(334, 40):
            for life in (None, 0, 1, 3):
                told.add(self.check_turns(naive, history, life))
        for naive, history in all_histories(["a", "b"], 2, 3):
            self.check_turns(naive, history, None)
        self.assertLessEqual({1, 2, 3}, told)

    def test_nobody(self):
        history = History(Land(["a", "b"], 3), [])
        self.assertEqual(least_turn(history=history, life=None), 1)
        self.assertIsNone(turn_clash(history, None, 1))
        self.same(lasting_marks(history, "a"), [])
        self.same(lasting_lots(history, "a", 0), [])

    def test_great_turns(self):
        self.assertIsNone(turn_clash(waiting(), None, 10 ** 30))

    def test_errors_in_their_order(self):
        history = waiting()
        for thing in junk():
            if thing != "a":
                self.refused(NoAddress, thing, lasting_marks, history, thing, "x")
                self.refused(NoAddress, thing, lasting_lots, history, thing, "x")
                self.refused(NoAddress, thing, at_once, history, thing)
        for thing in (-1, 5, True, "1", [1], {}):
            self.refused(BadMoment, thing, lasting_marks, history, "a", thing)
            self.refused(BadMoment, thing, lasting_lots, history, "a", thing)
        for thing in (-1, True, False, "1", [1], {}):
            self.refused(BadLife, thing, least_turn, history, thing)
            self.refused(BadLife, thing, turn_clash, history, thing, 0)
        for thing in (0, -1, True, False, None, "1", [1], {}):
            self.refused(BadTurn, thing, turn_clash, history, 1, thing)


if __name__ == "__main__":
    unittest.main()
