"""What surely happened: histories that fit what somebody saw of the answers of a right house."""

from oldaddress.checks import first_wrong, is_list, is_word_of, unlike_addresses
from oldaddress.entries import exact_promise
from oldaddress.forwards import in_order
from oldaddress.histories import History
from oldaddress.lands import check_land
from oldaddress.promises import table
from oldaddress.refusals import BadLooks
from oldaddress.stategraphs import StateGraph, StateLooks
from oldaddress.statesteps import small_steps


def is_answer(names, thing):
    """Whether any object is None, or a list of unlike addresses in the land's order."""
    if thing is None:
        return True
    told = unlike_addresses(names, thing)
    return told is not None and told == in_order(names, told)


def is_look(names, thing):
    """Whether any object is a dict from addresses to answers."""
    if not isinstance(thing, dict) or not all([is_word_of(names, key) for key in thing]):
        return False
    return all([is_answer(names, answer) for answer in list(thing.values())])


def told_looks(names, looks):
    """The looks of a list, answers as tuples or None, BadLooks if it is no such list."""
    if not is_list(looks) or not looks:
        raise BadLooks(0)
    wrong = first_wrong(looks, lambda thing: is_look(names, thing))
    if wrong is not None:
        raise BadLooks(wrong)
    found = []
    for look in looks:
        found.append({name: None if look[name] is None else tuple(look[name]) for name in names if name in look})
    return found


def agrees(look, entries):
    """Whether a table, or None where there is none, has just the answers of a look."""
    if entries is None:
        return False
    return all([entries.get(address) == answer for address, answer in look.items()])


def fits(history, promise, looks):
    """Whether a history of small steps keeps a promise all along, with just the answers that were seen."""
    told = exact_promise(promise)
    seen = told_looks(history.land().addresses(), looks)
    if len(seen) != history.now() + 1:
        return False
    if any([deed[0] == "wait" and deed[1] != 1 for deed in history.deeds()]):
        return False
    return all([agrees(look, table(history, told, moment)) for moment, look in enumerate(seen)])


class Seen:
    """The states of a small land, step by step, behind histories that fit looks; they go together by states."""

    def __init__(self, land, promise, looks):
        check_land(land)
        self.promise = exact_promise(promise)
        self._seen = told_looks(land.addresses(), looks)
        self.graph = StateGraph(land, self.promise[2], small_steps(land))
        # States get the numbers that they have in all_states.
        self.graph.all_numbers()
        self.states = StateLooks(land, self.promise, self.graph)
        self._come = self._ways_to()
        self._go = self._ways_on()

    def _agrees(self, at, number):
        entries = self.states.look(number)[1]
        return agrees(self._seen[at], None if entries is None else dict(entries))

    def _ways_to(self):
        """For each look the dict from states to how many histories come there that fit the looks up to it."""
        ways = [{0: 1} if self._agrees(0, 0) else {}]
        for at in range(1, len(self._seen)):
            found = {}
            for number, many in ways[-1].items():
                for deed, behind in self.graph.steps(number):
                    if behind in found or self._agrees(at, behind):
                        found[behind] = found.get(behind, 0) + many
            ways.append(found)
        return ways

    def _ways_on(self):
        """For each look the dict from those states from which one can go on to fit all looks."""
        ways = [{number: True for number in self._come[-1]}]
        for come in reversed(self._come[:-1]):
            ways.append({number: True for number in come if self._leads(number, ways[-1])})
        return ways[::-1]

    def _leads(self, number, later):
        return any([behind in later for deed, behind in self.graph.steps(number)])

    def odd(self):
        """The first look up to which nothing fits, None if something fits all."""
        empty = [at for at, come in enumerate(self._come) if not come]
        return empty[0] if empty else None

    def many(self):
        return sum(list(self._come[-1].values()))

    def numbers(self):
        """The numbers of all states behind histories that fit."""
        return sorted(list(self._come[-1]))

    def first(self):
        """The deeds of the first history that fits, if there is one."""
        deeds = []
        number = 0
        for later in self._go[1:]:
            deed, number = [step for step in self.graph.steps(number) if step[1] in later][0]
            deeds.append(deed)
        return deeds

    def deeds_at(self, at):
        """The unlike deeds behind a look that histories that fit do there."""
        found = {}
        for number in self._go[at]:
            for deed, behind in self.graph.steps(number):
                if behind in self._go[at + 1]:
                    found[deed] = True
        return list(found)

    def all_deeds(self):
        """For each step the unlike deeds that histories that fit do there."""
        return [self.deeds_at(at) for at in range(len(self._go) - 1)]


def first_fit(land, promise, looks):
    """The first history that fits looks, None if there is none."""
    seen = Seen(land, promise, looks)
    return History(land, seen.first()) if seen.odd() is None else None


def odd_look(land, promise, looks):
    """The first look up to which no history fits, None if some history fits all."""
    return Seen(land, promise, looks).odd()


def count_fits(land, promise, looks):
    """How many histories fit looks."""
    return Seen(land, promise, looks).many()


def possible(land, promise, looks):
    """The states behind histories that fit looks, in the order of all_states."""
    seen = Seen(land, promise, looks)
    return [seen.graph.state_at(number) for number in seen.numbers()]


def sure_deeds(land, promise, looks):
    """Step by step the deed that all histories that fit do there, None where they do unlike ones; None without any."""
    seen = Seen(land, promise, looks)
    if seen.odd() is not None:
        return None
    return [deeds[0] if len(deeds) == 1 else None for deeds in seen.all_deeds()]


def sure_counts(land, promise, looks):
    """How many pieces lie at each address now, None where that is not sure; None if nothing fits."""
    seen = Seen(land, promise, looks)
    if seen.odd() is not None:
        return None
    counts = [seen.states.look(number)[0] for number in seen.numbers()]
    found = {}
    for at, name in enumerate(land.addresses()):
        sizes = sorted(set([count[at] for count in counts]))
        found[name] = sizes[0] if len(sizes) == 1 else None
    return found
