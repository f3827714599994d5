"""Desks: a land as it lives, with promises that are watched and held."""

from oldaddress.checks import is_list, is_number, is_word_of
from oldaddress.doing import waits_for
from oldaddress.entries import exact_promise
from oldaddress.errors import CannotBeDone
from oldaddress.histories import History, deeds_now
from oldaddress.lands import check_land
from oldaddress.promises import clash, keeps, table
from oldaddress.refusals import BadNumber, BadOrder, Broken, IsWatched, NotWatched, WouldBreak

WORDS = ("do", "watch", "hold", "free", "leave")


def order_parts(order):
    """The word of an order and what it is about, BadOrder if it is none."""
    if not is_list(order) or len(order) != 2 or not is_word_of(WORDS, order[0]):
        raise BadOrder(order)
    return order[0], order[1]


def step_behind(step, order):
    """The step to which an order leads from another one, whatever it breaks."""
    history, watched = step[1:]
    word, thing = order_parts(order)
    if word == "do":
        later = history.then(thing)
        return (("do", later.deeds()[-1]), later, watched)
    promise = exact_promise(thing)
    held = {told: is_held for told, is_held in watched}
    check_promise(history, held, word, promise, thing)
    return ((word, promise), history, watched_behind(watched, word, promise))


def check_promise(history, held, word, promise, thing):
    """Raises what speaks against an order about a promise, which a thing tells."""
    is_done = promise in held if word in ("watch", "leave") else held.get(promise, False)
    if word in ("watch", "hold") and is_done:
        raise IsWatched(thing)
    if word in ("free", "leave") and not is_done:
        raise NotWatched(thing)
    if word == "hold" and not keeps(history, promise):
        raise Broken(thing)


def watched_behind(watched, word, promise):
    """The pairs (promise, is held) behind an order about a promise."""
    others = [pair for pair in watched if pair[0] != promise]
    if word == "leave":
        return tuple(others)
    pair = (promise, word == "hold")
    if len(others) == len(watched):
        return (*watched, pair)
    return tuple([pair if told[0] == promise else told for told in watched])


def changes_between(step, later):
    """The pairs (promise, holds behind) of watched promises for which a deed makes a difference."""
    if later[0][0] != "do":
        return []
    changes = []
    for promise, is_held in later[2]:
        holds = keeps(later[1], promise)
        if holds != keeps(step[1], promise):
            changes.append((promise, holds))
    return changes


def held_ones(watched):
    return [promise for promise, is_held in watched if is_held]


def first_breach(history, watched):
    """The first held promise that a history does not keep now, None if there is none."""
    for promise in held_ones(watched):
        if not keeps(history, promise):
            return promise
    return None


class Desk:
    """A history that goes on by orders, and the promises that are watched and held."""

    def __init__(self, land):
        check_land(land)
        # Steps are triples (order, history behind it, watched behind it); they are replaced, never changed,
        # so that copies and trials can keep them as they are.
        self._steps = ((None, History(land, []), ()),)
        self._undone = ()

    def __eq__(self, other):
        return isinstance(other, Desk) and self._steps[-1][1:] == other._steps[-1][1:]

    def history(self):
        return self._steps[-1][1]

    def watched(self):
        history, watched = self._steps[-1][1:]
        return [(promise, is_held, keeps(history, promise)) for promise, is_held in watched]

    def give(self, order):
        step = step_behind(self._steps[-1], order)
        breach = first_breach(step[1], step[2])
        if breach is not None:
            raise WouldBreak(breach)
        changes = changes_between(self._steps[-1], step)
        self._steps = (*self._steps, step)
        self._undone = ()
        return changes

    def would(self, order):
        return changes_between(self._steps[-1], step_behind(self._steps[-1], order))

    def may(self, numbers):
        history, watched = self._steps[-1][1:]
        deeds = deeds_now(history, numbers)
        return [deed for deed in deeds if first_breach(history.then(deed), watched) is None]

    def days_for(self, deed):
        history, watched = self._steps[-1][1:]
        if not history.can(deed):
            raise CannotBeDone(deed)
        days = [waits_for(history, promise, deed) for promise in held_ones(watched)]
        return None if None in days else max([0, *days])

    def tells(self, address, promise):
        history = self.history()
        history.address_told(address)
        entries = table(history, promise)
        return None if entries is None else entries.get(address, ())

    def quarrel(self, promise):
        return clash(self.history(), promise)

    def undo(self):
        if len(self._steps) == 1:
            return None
        step = self._steps[-1]
        self._steps = self._steps[:-1]
        self._undone = (*self._undone, step)
        return step[0]

    def redo(self):
        if not self._undone:
            return None
        step = self._undone[-1]
        self._undone = self._undone[:-1]
        self._steps = (*self._steps, step)
        return step[0]

    def orders(self):
        return [step[0] for step in self._steps[1:]]

    def count(self):
        return len(self._steps) - 1

    def at(self, number):
        if not is_number(number) or number > self.count():
            raise BadNumber(number)
        return self._desk_with(self._steps[: number + 1], ())

    def copy(self):
        return self._desk_with(self._steps, self._undone)

    def _desk_with(self, steps, undone):
        other = Desk(self.history().land())
        other._steps = steps
        other._undone = undone
        return other

    def trial(self, work):
        steps = self._steps
        undone = self._undone
        try:
            return work(self)
        finally:
            self._steps, self._undone = steps, undone
