"""Gentle histories: in which no walker is lost, if addresses that got free lie idle for long enough."""

from oldaddress.checks import is_number
from oldaddress.histories import History
from oldaddress.lands import Land
from oldaddress.policies import check_ending_life
from oldaddress.refusals import BadIdle, BadMoves, BadRest
from oldaddress.walks import check_pace

WORDS = ("make", "grow", "move", "end", "wait")


def check_rest_and_moves(rest, moves):
    if not is_number(rest):
        raise BadRest(rest)
    if not is_number(moves):
        raise BadMoves(moves)


def check_idle(idle):
    if not is_number(idle):
        raise BadIdle(idle)


class Lying:
    """What lies where: how often it moved, and since when; and since when the other addresses are free."""

    def __init__(self, rest, moves, idle):
        self._rest = rest
        self._limit = moves
        self._idle = idle
        self._moved = {}
        self._since = {}
        self._freed = {}

    def is_gentle(self, deed, day):
        """Whether a deed may be done on a day."""
        if deed[0] == "make":
            return self._is_idle(deed[1], day)
        if deed[0] == "end":
            return self._is_rested(deed[1], day)
        if deed[0] == "move":
            if self._moved[deed[1]] >= self._limit or not self._is_rested(deed[1], day):
                return False
            return self._is_idle(deed[2], day)
        return deed[0] in WORDS

    def _is_rested(self, address, day):
        return address not in self._since or day - self._since[address] >= self._rest

    def _is_idle(self, address, day):
        return address not in self._freed or day - self._freed[address] >= self._idle

    def go_on(self, deed, day):
        """Does a deed on a day."""
        if deed[0] == "make":
            self._moved[deed[1]] = 0
            self._since.pop(deed[1], None)
        elif deed[0] == "move":
            self._moved[deed[2]] = self._moved[deed[1]] + 1
            self._since[deed[2]] = day
        if deed[0] == "move" or deed[0] == "end":
            self._freed[deed[1]] = day


def is_gentle(history, rest, moves, idle):
    """Whether a history makes, moves and ends things such that who comes late finds them or that they are gone."""
    check_rest_and_moves(rest, moves)
    check_idle(idle)
    lying = Lying(rest, moves, idle)
    for moment, deed in enumerate(history.deeds()):
        day = history.day(moment)
        if not lying.is_gentle(deed, day):
            return False
        lying.go_on(deed, day)
    return True


def check_walkers(life, pace, rest, moves):
    check_ending_life(life)
    check_pace(pace)
    check_rest_and_moves(rest, moves)


def idle_needed(life, pace, rest, moves):
    """The least number of idle days with which nobody is lost in a gentle history."""
    check_walkers(life, pace, rest, moves)
    return life + 1 + moves * max(0, pace - rest)


def waiting(days):
    return [("wait", days)] if days > 0 else []


def lost_history(life, pace, rest, moves, idle):
    """A gentle history in which somebody is lost, None if addresses lie idle for long enough."""
    check_walkers(life, pace, rest, moves)
    check_idle(idle)
    if idle >= idle_needed(life, pace, rest, moves):
        return None
    # The walker comes pace - rest days later behind the thing at each place: it takes so many until they are too late.
    places = 0 if idle <= life else (idle - life - 1) // (pace - rest) + 1
    names = [f"p{number}" for number in range(max(2, places + 1))]
    deeds = [("make", names[0], 1)]
    for one, other in zip(names[:places], names[1 : places + 1]):
        deeds.extend([("move", one, other), *waiting(rest)])
    deeds.extend([("end", names[places]), *waiting(idle), ("make", names[places], 1)])
    return History(Land(names, 1), deeds)
