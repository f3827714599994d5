"""Asks: deeds that others want again and again, and whether a promise stands it."""

from oldaddress.checks import is_list, is_number
from oldaddress.deedforms import told_deed
from oldaddress.disciplines import lasting_promise
from oldaddress.doing import waits_for
from oldaddress.entries import exact_promise
from oldaddress.errors import BadAsks, BadWithin, CannotBeDone
from oldaddress.states import state
from oldaddress.statesteps import StateSteps, StateTables
from oldaddress.trails import FOUND, Trail, first_way


def check_within(within):
    if not is_number(within):
        raise BadWithin(within)


def serving(history, deed, promise, within):
    """The least number of days, up to within, behind which a deed is served, None if none will do."""
    if not history.can(deed):
        raise CannotBeDone(deed)
    told = exact_promise(promise)
    check_within(within)
    days = waits_for(history, told, deed)
    return days if days is not None and days <= within else None


def told_asks(history, asks):
    """The unlike deeds of a list, none of them a wait, BadAsks if it is no such list."""
    if not is_list(asks) or not asks:
        raise BadAsks(0)
    names = history.land().addresses()
    found = []
    for index, thing in enumerate(asks):
        deed = told_deed(names, thing)
        if deed is None or deed[0] == "wait" or deed in found:
            raise BadAsks(index)
        found.append(deed)
    return found


class Serving:
    """The states that come of asks, told by indexes, so many days of waiting ahead of each."""

    def __init__(self, history, asks, promise, within):
        self._asks = asks
        self._within = within
        self._steps = StateSteps(history.land(), promise[2], [])
        self._tables = StateTables(self._steps.names, promise)
        self._start = state(history, promise[2])

    def trail(self):
        return Trail(self._start)

    def doable(self, told):
        """The indexes of the asks that can be done in a state: waiting takes no piece anywhere."""
        return [index for index, deed in enumerate(self._asks) if self._steps.can(told[0], deed)]

    def behind(self, told, index):
        """The state behind the wait and an ask, FOUND if the ask is not served."""
        waited = told if self._within == 0 else self._steps.behind(told, ("wait", self._within))
        later = self._steps.behind(waited, self._asks[index])
        return later if self._tables.is_kept(later) else FOUND

    def state_told(self, indexes):
        """The state behind a list of indexes of asks that can all be served, None if it is none."""
        if not is_list(indexes):
            return None
        told = self._start
        for index in indexes:
            if not is_number(index) or index not in self.doable(told):
                return None
            told = self.behind(told, index)
            if told == FOUND:
                return None
        return told

    def is_lot(self, thing):
        """Whether any object is a list of such lists beyond whose states no ask leads."""
        if not is_list(thing):
            return False
        states = [self.state_told(indexes) for indexes in thing]
        if None in states or not any([len(indexes) == 0 for indexes in thing]):
            return False
        lot = {told: True for told in states}
        return all([self.behind(told, index) in lot for told in lot for index in self.doable(told)])


def served_trail(history, asks, promise, within):
    """The trail of states by asks that are served, and the first way to one that is not, else None."""
    serve = Serving(history, asks, promise, within)
    trail = serve.trail()
    way = first_way(
        trail,
        lambda told: serve.doable(told),
        lambda told, index: serve.behind(told, index),
    )
    return trail, way


def too_much(history, asks, promise, within):
    """The first shortest list of asks of which the last is not served, None if there is none."""
    told = told_asks(history, asks)
    exact = lasting_promise(promise)
    check_within(within)
    trail, way = served_trail(history, told, exact, within)
    return way


def served_lot(history, asks, promise, within):
    """The first shortest lists of asks to each state, None if one is not served."""
    told = told_asks(history, asks)
    exact = lasting_promise(promise)
    check_within(within)
    trail, way = served_trail(history, told, exact, within)
    return trail.ways() if way is None else None


def is_served_lot(history, asks, promise, within, thing):
    """Whether any object is a lot of lists of asks that shows that all are served for ever."""
    told = told_asks(history, asks)
    exact = lasting_promise(promise)
    check_within(within)
    return Serving(history, told, exact, within).is_lot(thing)


def least_within(history, asks, promise):
    """The least number of days within which asks are served for ever, None if there is none."""
    told = told_asks(history, asks)
    exact = lasting_promise(promise)
    for within in range(exact[2] + 2):
        trail, way = served_trail(history, told, exact, within)
        if way is None:
            return within
    return None
