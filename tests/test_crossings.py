"""What one point says of what another one answers, between files of unlike sections, over many small histories."""

import itertools
import random
import unittest

from oldaddress.answers import dues_of, learned_when
from oldaddress.asks import serving
from oldaddress.callers import break_forwarder, forwarder_fault, marker_fault
from oldaddress.closings import closed, may_close
from oldaddress.desks import Desk
from oldaddress.disciplines import careful, obeys
from oldaddress.doing import bar, free_again, is_let, let_deeds, staying, waits_for
from oldaddress.flows import flow, known_as, known_wholly, scaled, went
from oldaddress.forwards import follow
from oldaddress.happened import count_fits, fits, possible, sure_counts
from oldaddress.histories import History, deeds_now
from oldaddress.holders import due, holders, living, piece_due, shares
from oldaddress.inway import in_way, lots_in_way
from oldaddress.joined import joint_table
from oldaddress.lands import Land
from oldaddress.lasting import at_once, lasting_lots
from oldaddress.lazybooks import first_misled, how_led, lazy_book, right_book
from oldaddress.letters import cheapest, clash_with, holds_with, least_letters
from oldaddress.likeness import alike_lots, are_alike
from oldaddress.lives import front, greatest_life, kept, least_width
from oldaddress.marks import least_marks, lone_holders, marked_table, marking
from oldaddress.partings import finest_parting
from oldaddress.pieces import families, track
from oldaddress.promises import clash, is_clash, is_table, keeps, mended, misled, table
from oldaddress.roles import both_table, role_due, which
from oldaddress.settled import possible_kinds
from oldaddress.soonest import remedies, soonest
from oldaddress.states import places, state, table_by
from oldaddress.statelots import all_states
from oldaddress.stays import least_addresses, stays_of
from oldaddress.streets import Street, door_clash, door_tables
from oldaddress.texts import read, write
from oldaddress.viewing import seen_table
from oldaddress.walks import evening, lost_days, walk
from oldaddress.writers import keeper_fault, writer_fault
from tests.asking import Asking
from tests.naive import POLICIES, promises, random_histories

SOME = [("all", None, None), ("all", None, 1), ("first", None, 2), ("most", 1, None), ("all", 2, 1), ("first", 1, 0)]


class OfHolders(Asking):
    def test_dues_tracks_flows_and_places(self):
        """[3.5], [4.1], [4.4], [4.5], [5.2] to [5.4], [8.1] tell of the same pieces."""
        for naive, history in random_histories(3010, 40):
            now = history.now()
            for holder in holders(history, None):
                address, moment = holder
                row = [piece for first, last, _ in went(history, address, moment) for piece in range(first, last + 1)]
                self.assertEqual(row, naive.meant(holder))
                spots = {}
                for piece in row:
                    where = history.where(piece)
                    self.same(piece_due(history, (address, moment, piece)), () if where is None else (where,))
                    self.assertTrue(any(f <= moment <= l and a == address for f, l, a in track(history, piece)))
                    if where is not None:
                        spots[where] = spots.get(where, 0) + 1
                self.assertEqual(shares(history, holder), spots)
                self.assertEqual(due(history, holder, "all"), tuple(shares(history, holder)))
                flows = {other: n for (one, other), n in flow(history, moment).items() if one == address}
                self.assertEqual({other: n for other, n in flows.items() if other is not None}, spots)
                standing = [(a, i) for a, f, l in places(history, holder) for i in range(f, l + 1)]
                pieces = [history.piece_at(a, i) for a, i in standing]
                alive = [piece for first, last in living(history, holder) for piece in range(first, last + 1)]
                self.assertEqual(pieces, alive)
                self.assertEqual(standing, [history.index_of(piece) for piece in alive])
            self.assertEqual(sum(l - f + 1 for rows, _ in families(history) for f, l in rows), history.made())
            self.assertEqual(evening(history, history.day()), now)

    def test_known_as_and_answers(self):
        """[4.6] and [5.5]: by "all" the tables read backward."""
        for naive, history in random_histories(3011, 40):
            for one in naive.addresses:
                known, wholly = known_as(history, one), known_wholly(history, one)
                for address in naive.addresses:
                    moments = [m for f, l in known.get(address, []) for m in range(f, l + 1)]
                    whole = [m for f, l in wholly.get(address, []) for m in range(f, l + 1)]
                    for m in range(history.now() + 1):
                        told = due(history, (address, m), "all") if history.row(address, m) else ()
                        self.assertEqual(m in moments, one in told)
                        self.assertEqual(m in whole, told == (one,))
                    self.assertEqual(whole, [m for f, l in learned_when(history, address, (one,), "all", None)
                                             for m in range(f, l + 1)])

    def test_scaled(self):
        """[4.7]: what is told of holders goes with pieces and days that are so many times as great."""
        rng = random.Random(3012)
        for naive, history in random_histories(3013, 40):
            times, days = rng.randint(1, 10 ** 6), rng.randint(1, 10 ** 6)
            great = scaled(history, times, days)
            for policy in POLICIES:
                self.assertEqual(table(great, (policy, None, None)), table(history, (policy, None, None)))
                self.same([pair[1] for pair in front(great, policy)], [pair[1] for pair in front(history, policy)])
                for address in naive.addresses:
                    self.same(dues_of(great, address, policy, None), dues_of(history, address, policy, None))
            self.same(lazy_book(great), lazy_book(history))
            self.same(finest_parting(great, None), finest_parting(history, None))
            for address in naive.addresses:
                self.same(at_once(great, address), at_once(history, address))
                self.same(walk(great, address, great.day(), 1), [
                    (great.day() + index, stand[1])
                    for index, stand in enumerate(walk(history, address, history.day(), 1))])
            self.same(alike_lots(great, None), alike_lots(history, None))

    def test_lots_last(self):
        """[5.6], [5.7], [7.5]: alike ones have one living row, of whatever address."""
        for naive, history in random_histories(3014, 40):
            for lot in alike_lots(history, None):
                for one, other in zip(lot, lot[1:]):
                    self.assertIs(are_alike(history, one, other), True)
            for address in naive.addresses:
                lots = [{m for a, m in lot if a == address} for lot in alike_lots(history, None)]
                self.assertEqual({frozenset(lot) for lot in lots if lot},
                                 {frozenset(lot) for lot in lasting_lots(history, address)})


class OfPromises(Asking):
    def test_one_table_many_ways(self):
        """[6.2], [6.7], [6.8], [7.4], [8.5], [14.1], [14.2], [14.5], [18.1], [20.2], [22.4]."""
        for naive, history in random_histories(3020, 40):
            empty = History(Land(["y", "z"], 1), [])
            for promise in SOME + promises()[::11]:
                told = table(history, promise)
                self.assertEqual(seen_table(history, promise, lambda address, moment: "w"),
                                 None if told is None else {(address, "w"): told[address] for address in told})
                self.same(table_by(history.land(), promise, state(history, promise[2])), told)
                self.same(joint_table([history, empty], promise), told)
                self.assertEqual(lots_in_way(history, promise) == {}, told is not None)
                self.assertIs(holds_with(history, promise, []), told is not None)
                self.assertEqual(least_letters(history, promise, [1] * (history.now() + 1), 1)[0] == 0, told is not None)
                lone = lone_holders(history, promise)
                marks = marking(history, promise)
                self.assertEqual(seen_table(history, promise, lambda address, moment: moment) is None, bool(lone))
                self.assertEqual(marks is None, bool(lone))
                if told is None:
                    fault = break_forwarder(history, promise, lambda address: (address,))
                    self.assertEqual(fault, forwarder_fault(history, promise, lambda address: (address,)))
                    self.assertIs(is_clash(history, promise, clash(history, promise)), True)
                    found = clash_with(history, promise, [])
                    self.assertIs(is_clash(history, promise, found), True)
                    self.assertIsNone(mended(history, promise, {}))
                else:
                    self.assertIsNone(forwarder_fault(history, promise, lambda address: list(told[address])))
                    self.same(misled(history, promise, told), [])
                    self.assertIs(is_table(history, promise, told), True)
                    self.same(mended(history, promise, {}), told)
                    self.assertTrue(not marks or max(len(told) for told in marks.values()) == 1)
                if marks is not None:
                    self.check_marks(history, promise, marks)

    def check_marks(self, history, promise, marks):
        """A marking's table is that of the view that tells marks."""
        def mark(address, moment):
            return [index for index, (f, l) in enumerate(marks[address]) if f <= moment <= l][0]

        self.same(marked_table(history, promise, marks), seen_table(history, promise, mark))
        for address in marks:
            self.same(least_marks(history, promise, address), marks[address])

    def test_roles_and_promises(self):
        """[17.2], [17.4] with [6] and [22.4]: where both are served a visitor is told the role's due."""
        for naive, history in random_histories(3021, 60):
            desk = Desk(history.land())
            for deed in history.deeds():
                desk.give(("do", deed))
            for policy, life in itertools.product(POLICIES, (None, 0, 2)):
                told = both_table(history, policy, life)
                for address in naive.addresses:
                    if told is not None:
                        self.same(told[address], role_due(history, address))
                        self.same(desk.tells(address, (policy, None, life)), told[address])
                        seen = [(m, history.now(), told[address]) for a, m in holders(history, life) if a == address]
                        self.same(which(history, address, policy, seen), "either")
                    entry = (table(history, (policy, None, life)) or {}).get(address, ())
                    if table(history, (policy, None, life)) is not None:
                        self.same(desk.tells(address, (policy, None, life)), entry)

    def test_books_and_tables(self):
        """[12.2] to [12.5] with [6] and [13]."""
        for naive, history in random_histories(3022, 60):
            for life in (None, 0, 1, 3):
                promise = ("all", None, life)
                book, told = right_book(history, life), table(history, promise)
                self.assertEqual(book is None, clash(history, promise) is not None)
                if book is not None:
                    for address, moment in holders(history, life):
                        led = follow(history.land(), book, address)
                        self.same(led, due(history, (address, moment), "all"))
                        self.same(led, told[address])
                if first_misled(history, life) is None:
                    self.assertIsNotNone(told)
                    for address in told:
                        self.same(follow(history.land(), lazy_book(history), address), told[address])
            for holder in holders(history, None):
                ends = lost_days(history, holder, 1, None)
                lives = living(history, holder) != []
                if how_led(history, holder) == "right" and len(due(history, holder, "all")) < 2:
                    self.assertTrue(not ends or ends[-1][1] is not None)
                if lives and how_led(history, holder) == "gone":
                    self.assertIsNone(ends[-1][1])

    def test_streets(self):
        """[16.4]: one house for all is the promise itself; what is kept by addresses is kept behind doors."""
        rng = random.Random(3023)
        for naive, history in random_histories(3024, 40):
            whole = Street(history, dict.fromkeys(naive.addresses, "h"), {"h": None}, [])
            owners = {address: rng.choice(("n", "s")) for address in naive.addresses}
            street = Street(history, owners, {"n": "s", "s": None}, [])
            for promise in SOME:
                told = table(history, promise)
                self.assertEqual(door_tables(whole, promise), None if told is None else ({"h": told} if told else {}))
                self.assertEqual(door_clash(whole, promise), None if told is not None else ("h", clash(history, promise)))
                if told is not None:
                    self.assertIsNotNone(door_tables(street, promise))
                    self.assertIs(may_close(street, ["n"], promise), True)
                    self.assertIsNotNone(door_tables(closed(street, ["n"]), promise))

    def test_a_history_that_gives_nothing_anew_within_life_needs_its_own_addresses(self):
        """[9.4] and [15.7]: stays of a history need at most the land's addresses where nobody's address is given anew."""
        met = set()
        for naive, history in random_histories(3025, 80):
            for life in (0, 1, 2):
                given = True
                for moment in range(history.now()):
                    later = naive.rows[moment + 1]
                    for address in naive.addresses:
                        held = [m for m in range(moment + 1) if naive.rows[m][address]
                                and naive.days[moment] <= history.ahead(moment + 1).last_day(m) + life]
                        if later[address] and not naive.rows[moment][address] and held:
                            given = False
                if given:
                    self.assertLessEqual(least_addresses(stays_of(history, life)), len(naive.addresses))
                met.add(given)
        self.assertEqual(met, {True, False})


class OfDeeds(Asking):
    def test_let_in_many_ways(self):
        """[9.1] to [9.6], [10.1], [10.4], [14.1], [22.3] of one deed."""
        rng = random.Random(3030)
        for naive, history in random_histories(3031, 40, 6):
            numbers = [0, 1, 2]
            deeds = deeds_now(history, numbers)
            for promise in rng.sample(SOME, 3):
                lets = let_deeds(history, promise, numbers)
                discipline = careful(promise)
                desk = Desk(history.land())
                for deed in history.deeds():
                    desk.give(("do", deed))
                is_held = keeps(history, promise)
                if is_held:
                    desk.give(("hold", promise))
                    self.same(desk.may(numbers), lets)
                for deed in rng.sample(deeds, min(6, len(deeds))):
                    let = is_let(history, promise, deed)
                    self.assertEqual(let, deed in lets)
                    self.assertIs(discipline(history, deed), let)
                    self.assertEqual(in_way(history, deed, promise) == {}, let)
                    self.assertEqual(bar(history, promise, deed) is None, let)
                    days = waits_for(history, promise, deed)
                    self.assertEqual(staying(history, promise, deed) is None, days is not None)
                    self.assertEqual(serving(history, deed, promise, 10 ** 6), days)
                    self.assertEqual(soonest(history, promise, [deed]), None if days is None else [days])
                    if is_held:
                        self.assertEqual(desk.days_for(deed), days)
                    if promise[1] is None:
                        later = history.then(deed)
                        self.same(remedies(history, promise[0], promise[2], deed),
                                  (days, least_width(later, promise[0], promise[2]),
                                   greatest_life(later, promise[0], None)))
                    self.check_letters(history, promise, deed, days)

    def check_letters(self, history, promise, deed, days):
        """[14.6] with [9.2]: where a day costs nothing and each letter something one waits just so long, if it helps."""
        prices = [1] * (history.now() + 1)
        told, cost, letters = cheapest(history, deed, promise, prices, 1, 0)
        self.assertEqual(cost == 0, days is not None)
        if days is not None:
            self.assertEqual((told, letters), (days, []))
        at_once_cost = least_letters(history.then(deed), promise, prices + [1], 1)[0]
        self.same(cheapest(history, deed, promise, prices, 1, 10 ** 9)[:2], (0, at_once_cost))

    def test_free_again(self):
        """[9.4] with [3.6] and [22.3]."""
        for naive, history in random_histories(3032, 40, 6):
            for promise in SOME:
                for address, days in free_again(history, promise).items():
                    self.same(days, waits_for(history, promise, ("make", address, 1)))
                    if days is not None:
                        later = history.then(("wait", days)) if days else history
                        self.assertIn(("make", address, 1), let_deeds(later, promise, [1]))

    def test_histories_that_keep_all_along(self):
        """[6.6], [10.1], [20.4], [20.5], [21.1]: looks of a right house, its writer and its keeper."""
        met = set()
        for naive, history in random_histories(3033, 60, 5):
            if any(deed[0] == "wait" and deed[1] != 1 for deed in naive.deeds):
                continue
            for promise in SOME:
                looks = [table(history, promise, moment) for moment in range(history.now() + 1)]
                always = None not in looks
                self.assertEqual(always, kept(history, promise) == [(0, history.now())])
                self.assertEqual(always, obeys(history, careful(promise)) is None)
                met.add(always)
                if always:
                    self.assertIs(fits(history, promise, looks), True)
                    for look in looks:
                        for address in naive.addresses:
                            look.setdefault(address, None)
                    self.assertIs(fits(history, promise, looks), True)

                def write_tables(slate, deed):
                    slate.clear()
                    done.append(deed)
                    told = table(History(history.land(), done), promise)
                    return {address: entry for address, entry in (told or {}).items()}

                done = []
                self.assertIsNone(writer_fault(history, promise, (lambda names: {}, write_tables)))
                marked = marker_fault(history, promise, lambda address, row, last: 0)
                self.assertEqual(marked is None, always)
        self.assertEqual(met, {True, False})

    def test_what_happened_and_states(self):
        """[8.6] to [8.8], [9.7], [20.5], [21.2] to [21.4]."""
        rng = random.Random(3034)
        for addresses, most, life in ((["a", "b"], 1, 1), (["b", "a"], 2, 0), (["a", "b", "c"], 1, 0)):
            land = Land(addresses, most)
            everything = all_states(land, life)
            for promise in (("all", None, life), ("first", 1, life)):
                kept_ones = [one for one in everything if table_by(land, promise, one) is not None]
                history = History(land, [])
                looks = [{}]
                for _ in range(5):
                    steps = deeds_now(history, list(range(most + 1))) + [("wait", 1)]
                    history = history.then(rng.choice([deed for deed in steps if is_let(history, promise, deed)]))
                    told = table(history, promise)
                    looks.append({address: told.get(address) for address in rng.sample(addresses, 1)})
                found = possible(land, promise, looks)
                self.assertIn(state(history, life), found)
                self.assertEqual([one for one in everything if one in found], found)
                self.assertTrue(all(one in kept_ones for one in found))
                self.assertGreaterEqual(count_fits(land, promise, looks), len(found))
                counts = sure_counts(land, promise, looks)
                for address, many in counts.items():
                    self.assertTrue(many is None or many == len(history.row(address)) == 0
                                    or sum(l - f + 1 for f, l in history.row(address)) == many)
                kinds = possible_kinds(land, promise, looks)
                for kind in kinds:
                    self.assertEqual(len({str(table_by(land, promise, found[index])) for index in kind}), 1)
                self.assertIsNone(keeper_fault(
                    land, promise, lambda deeds, deed: is_let(History(land, deeds), promise, deed), [0, 1], 3))


class OfTexts(Asking):
    def test_all_that_is_read_answers_alike(self):
        for naive, history in random_histories(3040, 30):
            desk = Desk(history.land())
            for deed in history.deeds():
                desk.give(("do", deed))
            for promise in SOME:
                desk.give(("hold" if keeps(history, promise) else "watch", promise))
            again = read(write(desk))
            self.same(again.watched(), desk.watched())
            self.assertTrue(again.history() == read(write(history)))
            self.assertTrue(read(write(history)).land() == read(write(history.land())))
            self.same(again.may([0, 1]), desk.may([0, 1]))
            told = again.trial(lambda other: (other.undo(), write(other)))
            self.assertNotEqual(told[1], write(desk))
            self.same(write(again), write(desk))
            self.same(write(desk.copy()), write(desk.at(desk.count())))
            for promise in SOME:
                self.same(table(read(write(history)), promise), table(history, promise))


if __name__ == "__main__":
    unittest.main()
