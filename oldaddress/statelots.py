"""States of small lands: all of them, deeds that part two, and lots that show that none do."""

from oldaddress.checks import is_list
from oldaddress.entries import exact_promise
from oldaddress.errors import UnlikeLands
from oldaddress.lands import check_land
from oldaddress.policies import check_life
from oldaddress.stateforms import state_told
from oldaddress.stategraphs import StateGraph, StateLooks, kinds_of, lots_of_kinds
from oldaddress.states import state
from oldaddress.statesteps import small_steps
from oldaddress.trails import FOUND, Trail, first_way


def all_states(land, life):
    """All states of a small land, those of fewer deeds first."""
    check_land(land)
    check_life(life)
    graph = StateGraph(land, life, small_steps(land))
    return [graph.state_at(number) for number in graph.all_numbers()]


class Pairing:
    """The pairs of states that come of those of two histories, by the same deeds."""

    def __init__(self, one, other, promise):
        if one.land() != other.land():
            raise UnlikeLands()
        self._promise = exact_promise(promise)
        self._land = one.land()
        life = self._promise[2]
        self._graph = StateGraph(self._land, life, small_steps(self._land))
        self._looks = StateLooks(self._land, self._promise, self._graph)
        self._start = (self._graph.number_of(state(one, life)), self._graph.number_of(state(other, life)))
        self._behind = {}

    def are_unlike(self, pair):
        return self._looks.look(pair[0]) != self._looks.look(pair[1])

    def steps(self, pair):
        """The dict from deeds to the pairs behind them; where as many pieces lie the same deeds can be done."""
        if pair not in self._behind:
            found = {}
            for (deed, one), (also, other) in zip(self._graph.steps(pair[0]), self._graph.steps(pair[1])):
                found[deed] = (one, other)
            self._behind[pair] = found
        return self._behind[pair]

    def pair_behind(self, pair, deed):
        """The pair behind a deed, FOUND if it is an unlike one."""
        behind = self.steps(pair)[deed]
        return FOUND if self.are_unlike(behind) else behind

    def trail_and_way(self):
        """All pairs that are met up to the first unlike one, and the way to it, None if all are alike."""
        trail = Trail(self._start)
        if self.are_unlike(self._start):
            return trail, []
        way = first_way(
            trail,
            lambda pair: list(self.steps(pair)),
            lambda pair, deed: self.pair_behind(pair, deed),
        )
        return trail, way

    def told(self, pair):
        return (self._graph.state_at(pair[0]), self._graph.state_at(pair[1]))

    def lot_told(self, thing):
        """The list of the pairs of states that a thing tells, None if it tells none."""
        if not is_list(thing):
            return None
        found = []
        for part in thing:
            if not is_list(part) or len(part) != 2:
                return None
            states = [state_told(self._land, self._promise[2], one) for one in part]
            if None in states:
                return None
            found.append((self._graph.number_of(states[0]), self._graph.number_of(states[1])))
        return found

    def is_lot(self, pairs):
        """Whether pairs are a lot that has the first pair of all."""
        lot = {pair: True for pair in pairs}
        if len(lot) < len(pairs) or self._start not in lot:
            return False
        for pair in pairs:
            if self.are_unlike(pair) or not all([behind in lot for behind in list(self.steps(pair).values())]):
                return False
        return True


def parting(one, other, promise):
    """The first shortest deeds behind which the states of two histories are unlike, None if there are none."""
    trail, way = Pairing(one, other, promise).trail_and_way()
    return way


def alike_lot(one, other, promise):
    """The lot of all pairs that come of the states of two histories, None if deeds part them."""
    pairing = Pairing(one, other, promise)
    trail, way = pairing.trail_and_way()
    return [pairing.told(pair) for pair in trail.things()] if way is None else None


def is_alike_lot(one, other, promise, thing):
    """Whether any object is a lot that shows that no deeds part two histories."""
    pairing = Pairing(one, other, promise)
    pairs = pairing.lot_told(thing)
    return pairs is not None and pairing.is_lot(pairs)


def state_kinds(land, promise):
    """The lists of the indexes in all_states of states that no deeds make unlike for a promise."""
    check_land(land)
    exact = exact_promise(promise)
    graph = StateGraph(land, exact[2], small_steps(land))
    return lots_of_kinds(kinds_of(graph, StateLooks(land, exact, graph)))
