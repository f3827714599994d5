"""Callers' own writers, who see deeds alone, and door keepers, who let them: the first deeds behind which they fail."""

from oldaddress.callers import check_function
from oldaddress.checks import is_from_one, is_list, is_number
from oldaddress.deedforms import deeds_of
from oldaddress.entries import exact_promise, serves, told_entries
from oldaddress.errors import BadMost
from oldaddress.functions import is_function
from oldaddress.histories import told_numbers
from oldaddress.lands import check_land
from oldaddress.placing import places_due
from oldaddress.policies import dues_within
from oldaddress.promises import keeps
from oldaddress.refusals import BadSlate, BadTruth, BadWriter
from oldaddress.stategraphs import StateGraph, StateLooks
from oldaddress.trails import Trail


class Slates:
    """What a writer writes for the addresses of a land: slates, as dicts from addresses to tuples."""

    def __init__(self, names, writer):
        if not is_list(writer) or len(writer) != 2 or not all([is_function(part) for part in writer]):
            raise BadWriter(writer)
        self._names = tuple(names)
        self._writer = tuple(writer)

    def first(self):
        begin = self._writer[0]
        return self._exact(begin(list(self._names)))

    def behind(self, slate, deed):
        write = self._writer[1]
        return self._exact(write(dict(slate), deed))

    def _exact(self, thing):
        slate = told_entries(self._names, thing)
        if slate is None:
            raise BadSlate(thing)
        return slate


def says(slate, address):
    """What a slate says of an address: without an entry the address itself."""
    return slate.get(address, (address,))


def first_unserved(history, promise, slate, moment):
    """The triple (moment, holder, told) of the first served holder whom a slate misleads, None if there is none."""
    policy, width, life = promise
    for holder, due in dues_within(history, policy, life, moment):
        told = says(slate, holder[0])
        if not serves(width, told, due):
            return (moment, holder, told)
    return None


def writer_fault(history, promise, writer):
    """The first moment at which a kept promise is broken by what a writer wrote, for whom, and what that says."""
    told = exact_promise(promise)
    slates = Slates(history.land().addresses(), writer)
    slate = slates.first()
    for moment, deed in enumerate([None, *history.deeds()]):
        if deed is not None:
            slate = slates.behind(slate, deed)
        fault = first_unserved(history, told, slate, moment) if keeps(history, told, moment) else None
        if fault is not None:
            return fault
    return None


def check_steps(numbers, most):
    """The unlike numbers of a list, if they and how many deeds there may be at most are right."""
    told = told_numbers(numbers)
    if not is_number(most):
        raise BadMost(most)
    return told


def steps_of(land, numbers):
    """All deeds of a land with these numbers, waits behind all others."""
    waits = [("wait", number) for number in numbers if is_from_one(number)]
    return [*deeds_of(land.addresses(), numbers), *waits]


class Doings:
    """The states to which deeds with some numbers lead, and whether a promise is kept there."""

    def __init__(self, land, promise, numbers):
        self._names = land.addresses()
        self._promise = promise
        self._graph = StateGraph(land, promise[2], steps_of(land, numbers))
        self._looks = StateLooks(land, promise, self._graph)

    def steps(self, number):
        """The pairs (deed, number behind it) of what can be done in a state."""
        return self._graph.steps(number)

    def is_kept(self, number):
        return self._looks.is_kept(number)

    def is_misled(self, number, slate):
        """Whether the promise is kept in a state and a slate misleads somebody who is served there."""
        return self.is_kept(number) and not self._are_served(number, slate)

    def _are_served(self, number, slate):
        policy, width, life = self._promise
        for address, pairs in zip(self._names, self._graph.state_at(number)[1]):
            told = says(slate, address)
            dues = [places_due(self._names, policy, places) for places, age in pairs]
            if not all([serves(width, told, due) for due in dues]):
                return False
        return True


def first_way_to_fault(doings, slates, most):
    """The first shortest list of at most so many deeds behind which a writer has its first fault, else None."""
    # Where states and slates are the same, faults are the same, however one came there.
    trail = Trail((0, tuple(list(slates.first().items()))))
    at = 0
    while at < trail.many():
        number, told = trail.met(at)
        way = trail.way(at)
        steps = doings.steps(number) if len(way) < most else []
        for deed, behind in steps:
            slate = slates.behind(dict(told), deed)
            if doings.is_misled(behind, slate):
                return [*way, deed]
            trail.meet(at, deed, (behind, tuple(list(slate.items()))))
        at += 1
    return None


def shortest_fault(land, promise, writer, numbers, most):
    """The first shortest list of deeds behind which a writer has a fault just at the last moment, else None."""
    check_land(land)
    told = exact_promise(promise)
    slates = Slates(land.addresses(), writer)
    doings = Doings(land, told, check_steps(numbers, most))
    return first_way_to_fault(doings, slates, most)


def keeper_lets(keeper, ahead, deed):
    """Whether a door keeper lets a deed behind others."""
    truth = keeper(ahead, deed)
    if not isinstance(truth, bool):
        raise BadTruth(truth)
    return truth


def keeper_fault(land, promise, keeper, numbers, most):
    """The first list of deeds behind which a door keeper is too lax or too strict, None if there is none."""
    check_land(land)
    told = exact_promise(promise)
    check_function(keeper)
    doings = Doings(land, told, check_steps(numbers, most))
    ways = [((), 0)]
    while ways and len(ways[0][0]) < most:
        longer = []
        for ahead, number in ways:
            for deed, behind in doings.steps(number):
                let = keeper_lets(keeper, ahead, deed)
                if let != doings.is_kept(behind):
                    return ("lax" if let else "strict", [*ahead, deed])
                if let:
                    longer.append(((*ahead, deed), behind))
        ways = longer
    return None
