"""Disciplines: functions that let deeds, and whether they keep a promise for ever."""

from oldaddress.checks import is_list
from oldaddress.deedforms import told_deed
from oldaddress.entries import exact_promise
from oldaddress.errors import BadDiscipline, BadLife
from oldaddress.functions import is_function
from oldaddress.histories import History
from oldaddress.lands import check_land
from oldaddress.promises import keeps
from oldaddress.states import state
from oldaddress.statesteps import StateSteps, StateTables, small_steps
from oldaddress.trails import FOUND, Trail, first_way


def check_discipline(thing):
    if not is_function(thing):
        raise BadDiscipline(thing)


def lasting_promise(thing):
    """The promise that a thing tells, BadLife if its life has no end."""
    promise = exact_promise(thing)
    if promise[2] is None:
        raise BadLife(promise[2])
    return promise


def obeys(history, discipline):
    """The first moment at which a discipline did not let the next deed, None if it let all."""
    check_discipline(discipline)
    for moment, deed in enumerate(history.deeds()):
        if discipline(history.ahead(moment), deed) is not True:
            return moment
    return None


class Keeping:
    """The small steps of a land, whether a discipline lets them, and whether a promise is kept behind them."""

    def __init__(self, land, discipline, promise):
        check_land(land)
        check_discipline(discipline)
        self._promise = lasting_promise(promise)
        self._land = land
        self._discipline = discipline
        self._steps = StateSteps(land, self._promise[2], small_steps(land))
        self._tables = StateTables(self._steps.names, self._promise)
        # Of all ways to a state the discipline is asked on the first shortest one: it tells the same on each.
        self._histories = {self._steps.nothing(): History(land, [])}

    def trail(self):
        return Trail(self._steps.nothing())

    def doable(self, told):
        """The small steps that can be done in a state."""
        return self._steps.doable(told[0])

    def lets(self, history, deed):
        discipline = self._discipline
        return discipline(history, deed) is True

    def asked(self, told, deed):
        """Whether the deed is let in a state, the state behind it, and whether the promise is kept there."""
        is_deed_let = self.lets(self._histories[told], deed)
        behind = self._steps.behind(told, deed)
        return is_deed_let, behind, self._tables.is_kept(behind)

    def remembered(self, told, deed, behind):
        """The state behind a deed, met for the first time or not."""
        if behind not in self._histories:
            self._histories[behind] = self._histories[told].then(deed)
        return behind

    def breach(self, told, deed):
        """FOUND behind a deed that is let and breaks the promise, None behind one that is not let."""
        is_deed_let, behind, is_kept = self.asked(told, deed)
        if not is_deed_let:
            return None
        return self.remembered(told, deed, behind) if is_kept else FOUND

    def strictness(self, told, deed):
        """FOUND behind a deed that is not let though the promise is kept, None where it is not."""
        is_deed_let, behind, is_kept = self.asked(told, deed)
        if not is_kept:
            return None
        return self.remembered(told, deed, behind) if is_deed_let else FOUND

    def history_told(self, way):
        """The history of a way that the discipline lets and behind which the promise is kept, else None."""
        if not is_list(way):
            return None
        history = History(self._land, [])
        for thing in way:
            deed = told_deed(self._steps.names, thing)
            if deed is None or not history.can(deed) or (deed[0] == "wait" and deed[1] != 1):
                return None
            history = history.then(deed)
        if obeys(history, self._discipline) is not None or not keeps(history, self._promise):
            return None
        return history

    def is_lot(self, thing):
        """Whether any object is a list of such ways beyond whose states no step that is let leads."""
        if not is_list(thing):
            return False
        histories = [self.history_told(way) for way in thing]
        if None in histories or 0 not in [history.now() for history in histories]:
            return False
        lot = {state(history, self._promise[2]): history for history in histories}
        for told, history in lot.items():
            for deed in self.doable(told):
                if self.lets(history, deed) and self._steps.behind(told, deed) not in lot:
                    return False
        return True


def breaking_trail(land, discipline, promise):
    """The trail of states by steps that are let, and the first way that breaks a promise, else None."""
    keeping = Keeping(land, discipline, promise)
    trail = keeping.trail()
    way = first_way(
        trail,
        lambda told: keeping.doable(told),
        lambda told, deed: keeping.breach(told, deed),
    )
    return trail, way


def breaking_way(land, discipline, promise):
    """The first shortest way that a discipline lets and that breaks a promise, None if there is none."""
    trail, way = breaking_trail(land, discipline, promise)
    return way


def safe_lot(land, discipline, promise):
    """The first shortest ways that a discipline lets to each state, None if one breaks a promise."""
    trail, way = breaking_trail(land, discipline, promise)
    return trail.ways() if way is None else None


def is_safe_lot(land, discipline, promise, thing):
    """Whether any object is a lot of ways that shows that a promise is kept for ever."""
    return Keeping(land, discipline, promise).is_lot(thing)


def careful(promise):
    """The discipline that lets just the deeds behind which a promise is kept."""
    told = exact_promise(promise)

    def keeps_behind(history, deed):
        return keeps(history.then(deed), told)

    return keeps_behind


def too_strict(land, discipline, promise):
    """The first shortest way that a discipline lets but for its last deed, which breaks nothing, else None."""
    keeping = Keeping(land, discipline, promise)
    trail = keeping.trail()
    return first_way(
        trail,
        lambda told: keeping.doable(told),
        lambda told, deed: keeping.strictness(told, deed),
    )
