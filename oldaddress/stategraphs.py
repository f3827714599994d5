"""Graphs of the states of small lands, each looked at once."""

from oldaddress.statesteps import StateSteps, StateTables
from oldaddress.trails import Trail


class StateGraph:
    """States, numbered as one comes to them from the one with nothing, and what deeds make of which."""

    def __init__(self, land, life, deeds):
        self._steps = StateSteps(land, life, deeds)
        self._trail = Trail(self._steps.nothing())
        self._behind = {}

    def number_of(self, state):
        return self._trail.meet(0, None, state)

    def state_at(self, number):
        return self._trail.met(number)

    def steps(self, number):
        """The pairs (deed, number behind it) of all deeds that can be done in a state."""
        if number not in self._behind:
            told = self._trail.met(number)
            found = []
            for deed in self._steps.doable(told[0]):
                found.append((deed, self._trail.meet(number, deed, self._steps.behind(told, deed))))
            self._behind[number] = found
        return self._behind[number]

    def all_numbers(self):
        """The numbers of all states; where none was numbered ahead, those of fewer deeds come first."""
        number = 0
        while number < self._trail.many():
            self.steps(number)
            number += 1
        return list(range(number))

    def way(self, number):
        return self._trail.way(number)


class StateLooks:
    """What a promise tells of the states of a graph."""

    def __init__(self, land, promise, graph):
        self._tables = StateTables(land.addresses(), promise)
        self._graph = graph
        self._looks = {}

    def look(self, number):
        """The pair of how many pieces lie where and of the table's entries, None if there is none."""
        if number not in self._looks:
            told = self._graph.state_at(number)
            table = self._tables.table(told)
            self._looks[number] = (told[0], None if table is None else tuple(list(table.items())))
        return self._looks[number]

    def is_kept(self, number):
        return self.look(number)[1] is not None


def numbered(things):
    """The list of numbers, one for each unlike thing, in the order in which they come."""
    numbers = {}
    return [numbers.setdefault(thing, len(numbers)) for thing in things]


def kinds_of(graph, looks):
    """For each state of a graph the number of its kind: no deeds make two of one kind unlike."""
    numbers = graph.all_numbers()
    kinds = []
    finer = numbered([looks.look(number) for number in numbers])
    while finer != kinds:
        kinds = finer
        finer = numbered([
            (kinds[number], *[kinds[behind] for deed, behind in graph.steps(number)]) for number in numbers
        ])
    return kinds


def lots_of_kinds(kinds):
    """The lists of the indexes of one kind."""
    lots = {}
    for index, kind in enumerate(kinds):
        lots.setdefault(kind, []).append(index)
    return list(lots.values())
