"""What deeds make of states, looked at once for each of what may come again."""

from oldaddress.deedforms import deed_can_be_done, deeds_of
from oldaddress.entries import shortest_entry
from oldaddress.placing import carried, carries_of, places_due, sizes_behind, whole_places
from oldaddress.policies import no_age


class Step:
    """A deed where so many pieces lie."""

    def __init__(self, sizes, deed, life):
        self._life = life
        self._carries = carries_of(sizes, deed)
        behind = sizes_behind(sizes, deed, self._carries)
        self._days = deed[1] if deed[0] == "wait" else 0
        self._owns = [whole_places(address, size) for address, size in behind.items()]
        self._carried = {}
        self._known = {}
        self.counts = tuple(list(behind.values()))

    def known_behind(self, at, pairs):
        """The pairs (places, age) of the address with an index behind the deed."""
        if (at, pairs) not in self._known:
            self._known[at, pairs] = self._known_anew(self._owns[at], pairs)
        return self._known[at, pairs]

    def _known_anew(self, own, pairs):
        ages = {}
        for places, age in pairs:
            behind = self._places_behind(places)
            older = age
            # What lies at the address itself was learned anew by now, however old those are who learned it once.
            if self._life is not None and (behind != own or not own):
                older = age + self._days
                if older > self._life:
                    continue
            if behind not in ages or (older is not None and older < ages[behind]):
                ages[behind] = older
        if own:
            ages[own] = no_age(self._life)
        return tuple(sorted(list(ages.items())))

    def _places_behind(self, places):
        if not self._carries:
            return places
        if places not in self._carried:
            self._carried[places] = carried(self._carries, places)
        return self._carried[places]


def small_steps(land):
    """The deeds of a small land: all that there can be, in their order, and behind them one day of waiting."""
    return [*deeds_of(land.addresses(), list(range(land.most() + 1))), ("wait", 1)]


class StateSteps:
    """The states of a land for a life, and which of them some deeds make of which."""

    def __init__(self, land, life, deeds):
        self.names = tuple(land.addresses())
        self._limit = land.most()
        self._life = life
        self._deeds = deeds
        self._steps = {}
        self._doable = {}

    def nothing(self):
        """The state in which nothing is there and nobody knows anything."""
        return (tuple([0 for name in self.names]), tuple([() for name in self.names]))

    def can(self, counts, deed):
        """Whether a deed can be done where so many pieces lie."""
        return deed_can_be_done(dict(zip(self.names, counts)), self._limit, deed)

    def doable(self, counts):
        """Those of the deeds that can be done where so many pieces lie."""
        if counts not in self._doable:
            self._doable[counts] = [deed for deed in self._deeds if self.can(counts, deed)]
        return self._doable[counts]

    def behind(self, state, deed):
        """The state behind a deed that can be done in another one."""
        counts, known = state
        if (counts, deed) not in self._steps:
            self._steps[counts, deed] = Step(dict(zip(self.names, counts)), deed, self._life)
        step = self._steps[counts, deed]
        return (step.counts, tuple([step.known_behind(at, pairs) for at, pairs in enumerate(known)]))


class StateTables:
    """The tables of a promise, told from states."""

    def __init__(self, names, promise):
        self._names = names
        self._policy = promise[0]
        self._width = promise[1]
        self._entries = {}

    def _entry(self, pairs):
        if pairs not in self._entries:
            dues = [places_due(self._names, self._policy, places) for places, age in pairs]
            self._entries[pairs] = shortest_entry(self._names, self._width, dues)
        return self._entries[pairs]

    def table(self, state):
        """The table that keeps the promise in a state, None if there is none."""
        entries = {name: self._entry(pairs) for name, pairs in zip(self._names, state[1]) if pairs}
        return None if None in list(entries.values()) else entries

    def is_kept(self, state):
        return all([not pairs or self._entry(pairs) is not None for pairs in state[1]])
