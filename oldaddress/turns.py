"""Turns: deeds that make and lose nothing, and the spots to which they lead.

A spot is a pair: the rows of all addresses, and for each address what is known by it, as pairs (row, age) of
what lives of the rows that those within life mean. As turns lose no piece these rows stay as they are.
"""

from oldaddress.deedforms import deed_can_be_done, deeds_of, rows_behind, told_deed
from oldaddress.entries import shortest_entry
from oldaddress.policies import due_by, known_within, no_age
from oldaddress.rows import size_of
from oldaddress.spots import living_row, parted, spots_of

WORDS = ("move", "swap", "cut", "split", "pour")
DAY = ("wait", 1)


def turn_told(names, thing):
    """The turn that a thing tells, as a tuple, None if it tells none."""
    deed = told_deed(names, thing)
    return deed if deed == DAY or (deed is not None and deed[0] in WORDS) else None


def pieces_taken(sizes, turn):
    """How many pieces a turn that is no wait takes to another address."""
    if turn[0] == "cut":
        return sizes[turn[1]] - turn[2]
    if turn[0] == "swap":
        return sizes[turn[1]] + sizes[turn[2]]
    return sizes[turn[1]]


def with_age(pairs, row, age):
    """Pairs (row, age) with one more, or with this age for its row."""
    ages = {known: told for known, told in pairs}
    ages[row] = age
    return tuple(sorted(list(ages.items())))


class Turns:
    """The turns of a history and the spots behind them, by a promise; None is without one."""

    def __init__(self, history, promise):
        self.names = tuple(history.land().addresses())
        self._limit = history.land().most()
        self._promise = promise
        self._turns = {}
        self._rows = {}
        self._dues = {}
        self._kept = {}
        self.start = self._spot_now(history)

    def _spot_now(self, history):
        lying = history.scene(history.now()).lying
        rows = tuple(list(lying.values()))
        if self._promise is None:
            return (rows, ())
        spots = spots_of(lying)
        return (rows, known_within(history, self._promise[2], lambda row: living_row(parted(row, spots))))

    def lying(self, spot):
        return dict(zip(self.names, spot[0]))

    def sizes(self, spot):
        return {name: size_of(row) for name, row in zip(self.names, spot[0])}

    def can(self, spot, turn):
        return deed_can_be_done(self.sizes(spot), self._limit, turn)

    def turns(self, spot):
        """All turns that can be done at a spot, as tuples compare."""
        sizes = self.sizes(spot)
        counts = tuple(list(sizes.values()))
        if counts not in self._turns:
            deeds = deeds_of(self.names, list(range(1, max(counts))))
            done = [deed for deed in deeds if deed[0] in WORDS and deed_can_be_done(sizes, self._limit, deed)]
            self._turns[counts] = sorted([*done, DAY])
        return self._turns[counts]

    def behind(self, spot, turn):
        """The spot behind a turn that can be done at another one."""
        rows = self._rows_behind(spot, turn)
        if self._promise is None:
            return (rows, ())
        if turn == DAY:
            return (rows, self._known_a_day_later(spot))
        known = []
        for ahead, row, pairs in zip(spot[0], rows, spot[1]):
            # Who learns an address now means what lies there now.
            is_new = row and row != ahead
            known.append(with_age(pairs, row, no_age(self._promise[2])) if is_new else pairs)
        return (rows, tuple(known))

    def _rows_behind(self, spot, turn):
        if (spot[0], turn) not in self._rows:
            behind = rows_behind(self.lying(spot), 0, turn)
            self._rows[spot[0], turn] = tuple([behind[name] for name in self.names])
        return self._rows[spot[0], turn]

    def _known_a_day_later(self, spot):
        life = self._promise[2]
        if life is None:
            return spot[1]
        known = []
        for own, pairs in zip(spot[0], spot[1]):
            older = [(row, age if row and row == own else age + 1) for row, age in pairs]
            known.append(tuple([(row, age) for row, age in older if age <= life]))
        return tuple(known)

    def is_kept(self, spot):
        """Whether the promise is kept at a spot."""
        if spot not in self._kept:
            self._kept[spot] = self._promise is None or self._is_kept_anew(spot)
        return self._kept[spot]

    def _is_kept_anew(self, spot):
        for pairs in spot[1]:
            dues = [self._due(spot, row) for row, age in pairs]
            if dues and shortest_entry(self.names, self._promise[1], dues) is None:
                return False
        return True

    def _due(self, spot, row):
        if (spot[0], row) not in self._dues:
            parts = parted(row, spots_of(self.lying(spot)))
            self._dues[spot[0], row] = due_by(self.names, self._promise[0], parts)
        return self._dues[spot[0], row]

    def spot_told(self, thing):
        """The spot behind a list of turns, behind each of which the promise is kept, None if it is none."""
        spot = self.start
        for part in thing:
            turn = turn_told(self.names, part)
            if turn is None or not self.can(spot, turn):
                return None
            spot = self.behind(spot, turn)
            if not self.is_kept(spot):
                return None
        return spot
