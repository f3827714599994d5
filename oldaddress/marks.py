"""Marks: words told with an address, stretch by stretch of the moments at which it was learned."""

from oldaddress.checks import is_list, is_number
from oldaddress.entries import by_address, exact_promise, serves, shortest_entry
from oldaddress.errors import BadMarks
from oldaddress.policies import dues_within


class Learners:
    """The served holders of one address, as pairs (moment, due), and what one entry serves of them."""

    def __init__(self, names, width, pairs):
        self._names = names
        self._width = width
        self._pairs = pairs

    def moments(self):
        return [learned for learned, due in self._pairs]

    def entry(self, first, last):
        """The shortest entry that serves those who learned the address in a stretch, None if none does."""
        dues = [due for learned, due in self._pairs if first <= learned <= last]
        return shortest_entry(self._names, self._width, dues)

    def are_served(self, first, last):
        """Whether one entry serves those of a stretch, if there are any."""
        between = [learned for learned, due in self._pairs if first <= learned <= last]
        return not between or self.entry(first, last) is not None

    def is_somebody_lone(self):
        return any([is_lone(self._width, due) for learned, due in self._pairs])

    def longest(self):
        """The stretches one behind another, each good as far on as can be, if nobody is lone."""
        stretches = []
        for moment in self.moments():
            if stretches and self.are_served(stretches[-1][0], moment):
                stretches[-1] = (stretches[-1][0], moment)
            else:
                stretches.append((moment, moment))
        return stretches


def is_lone(width, due):
    """Whether no entry serves who has this due, even alone."""
    return not serves(width, due, due)


def learners_by_address(history, promise, moment):
    """The dict from the asked addresses, in the land's order, to their learners."""
    policy, width, life = promise
    names = history.land().addresses()
    comers = dues_within(history, policy, life, history.moment_told(moment))
    found = {}
    for address, group in by_address(comers).items():
        found[address] = Learners(names, width, [(holder[1], due) for holder, due in group])
    return found


def learners_of(history, promise, address, moment):
    """The learners of one address, which may be none."""
    found = learners_by_address(history, promise, moment)
    return found.get(address, Learners([], promise[1], []))


def stretches_told(moments, thing):
    """The list of the pairs of these moments, the first one at most the last, that a thing tells, else None."""
    if not is_list(thing):
        return None
    for pair in thing:
        if not is_list(pair) or len(pair) != 2 or not all([is_number(part) for part in pair]):
            return None
        if pair[0] > pair[1] or pair[0] not in moments or pair[1] not in moments:
            return None
    return [(pair[0], pair[1]) for pair in thing]


def marking_told(moments, thing):
    """The marking of these moments that a thing tells, None if it tells none."""
    stretches = stretches_told(moments, thing)
    if stretches is None:
        return None
    if not all([ahead[1] < behind[0] for ahead, behind in zip(stretches, stretches[1:])]):
        return None
    lying = [moment for moment in moments for first, last in stretches if first <= moment <= last]
    return stretches if lying == moments else None


def is_good(history, promise, address, first, last, moment=None):
    """Whether one entry serves all served holders of an address who learned it in a stretch."""
    told = exact_promise(promise)
    history.address_told(address)
    begin = history.exact_moment(first)
    end = history.exact_moment(last)
    return learners_of(history, told, address, moment).are_served(begin, end)


def are_marks(history, promise, address, thing, moment=None):
    """Whether any object is a marking of good stretches of an address."""
    told = exact_promise(promise)
    history.address_told(address)
    learners = learners_of(history, told, address, moment)
    stretches = marking_told(learners.moments(), thing)
    return stretches is not None and all([learners.are_served(first, last) for first, last in stretches])


def lone_holders(history, promise, moment=None):
    """The served holders whom no entry serves even alone."""
    policy, width, life = exact_promise(promise)
    comers = dues_within(history, policy, life, history.moment_told(moment))
    return [holder for holder, due in comers if is_lone(width, due)]


def least_marks(history, promise, address, moment=None):
    """The marking with the fewest good stretches, as long as can be from the first on, None with a lone one."""
    told = exact_promise(promise)
    history.address_told(address)
    learners = learners_of(history, told, address, moment)
    return None if learners.is_somebody_lone() else learners.longest()


def bad_stretches(history, promise, address, moment=None):
    """The stretches from the beginning of each of least_marks to that of the next one."""
    stretches = least_marks(history, promise, address, moment)
    if stretches is None:
        return None
    return [(one[0], other[0]) for one, other in zip(stretches, stretches[1:])]


def are_bad(history, promise, address, thing, moment=None):
    """Whether any object is a list of stretches that are not good, of which no two share more than an end."""
    told = exact_promise(promise)
    history.address_told(address)
    learners = learners_of(history, told, address, moment)
    stretches = stretches_told(learners.moments(), thing)
    if stretches is None or any([learners.are_served(first, last) for first, last in stretches]):
        return False
    return all([ahead[1] <= behind[0] for ahead, behind in zip(stretches, stretches[1:])])


def marking(history, promise, moment=None):
    """The least marks of all asked addresses, None if somebody is lone."""
    found = learners_by_address(history, exact_promise(promise), moment)
    if any([learners.is_somebody_lone() for learners in list(found.values())]):
        return None
    return {address: learners.longest() for address, learners in found.items()}


def marks_told(found, thing):
    """The markings of just the asked addresses that a dict tells, None if it tells none."""
    if not isinstance(thing, dict) or len(thing) != len(found):
        return None
    told = {}
    for address, learners in found.items():
        if address not in thing:
            return None
        told[address] = marking_told(learners.moments(), thing[address])
    return None if None in list(told.values()) else told


def marked_table(history, promise, marks, moment=None):
    """The shortest table from pairs (address, mark) that keeps a promise, None if a stretch is not good."""
    found = learners_by_address(history, exact_promise(promise), moment)
    told = marks_told(found, marks)
    if told is None:
        raise BadMarks(marks)
    entries = {}
    for address, stretches in told.items():
        for mark, (first, last) in enumerate(stretches):
            entries[address, mark] = found[address].entry(first, last)
    return None if None in list(entries.values()) else entries
