"""What is settled: kinds of states that answers cannot tell apart, and deeds by which one learns which it is."""

from oldaddress.checks import is_number
from oldaddress.errors import BadMost
from oldaddress.happened import Seen
from oldaddress.stategraphs import kinds_of, lots_of_kinds
from oldaddress.trails import Trail


def possible_kinds(land, promise, looks):
    """The lists of the indexes of possible states that are alike for a promise."""
    seen = Seen(land, promise, looks)
    kinds = kinds_of(seen.graph, seen.states)
    return lots_of_kinds([kinds[number] for number in seen.numbers()])


class Learning:
    """Lots of states between which all answers so far leave it open which it is, as ascending tuples of numbers."""

    def __init__(self, seen):
        self._graph = seen.graph
        self._states = seen.states
        self._kinds = kinds_of(seen.graph, seen.states)
        self._steps = {}

    def told_apart(self, lots):
        """The lots of which each has one table."""
        found = []
        for lot in lots:
            parts = {}
            for number in lot:
                parts.setdefault(self._states.look(number)[1], []).append(number)
            found.extend([tuple(part) for part in list(parts.values())])
        return tuple(sorted(set(found)))

    def are_settled(self, lots):
        return all([len(set([self._kinds[number] for number in lot])) == 1 for lot in lots])

    def steps(self, number):
        """The dict from the deeds that can be done in a state and are let to the states behind them."""
        if number not in self._steps:
            steps = self._graph.steps(number)
            self._steps[number] = {deed: behind for deed, behind in steps if self._states.is_kept(behind)}
        return self._steps[number]

    def shared_deeds(self, lots):
        """The deeds that can be done in all states of all lots and are let there, in their order."""
        numbers = [number for lot in lots for number in lot]
        return [deed for deed in self.steps(numbers[0]) if all([deed in self.steps(number) for number in numbers])]

    def behind(self, lots, deed):
        """The lots behind a deed and a look at all addresses."""
        later = [sorted(set([self.steps(number)[deed] for number in lot])) for lot in lots]
        return self.told_apart(later)


def settling_deeds(learning, lots, most):
    """The first shortest list of at most so many deeds behind which each lot is of one kind, None if there is none."""
    trail = Trail(lots)
    at = 0
    while at < trail.many():
        told = trail.met(at)
        way = trail.way(at)
        if learning.are_settled(told):
            return way
        deeds = learning.shared_deeds(told) if len(way) < most else []
        for deed in deeds:
            trail.meet(at, deed, learning.behind(told, deed))
        at += 1
    return None


def own_deeds(land, promise, looks, most):
    """The first shortest list of deeds behind which answers settle what is possible, None if there is none."""
    seen = Seen(land, promise, looks)
    if not is_number(most):
        raise BadMost(most)
    if seen.odd() is not None:
        return None
    learning = Learning(seen)
    return settling_deeds(learning, learning.told_apart([seen.numbers()]), most)
