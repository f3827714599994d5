"""Several lands that become one: what is crowded, who comes to whom, and how the other land makes room."""

from itertools import permutations

from oldaddress.checks import first_wrong, is_list, is_number
from oldaddress.deedforms import told_deed
from oldaddress.doing import waited
from oldaddress.entries import clash_of_groups, exact_promise, table_of_groups
from oldaddress.histories import History
from oldaddress.policies import days_to_try, dues_within
from oldaddress.refusals import BadHistories, BadHistory, Crowded

FEWEST = 2


def is_history(thing):
    return isinstance(thing, History)


def check_histories(histories):
    wrong = first_wrong(histories, is_history)
    if wrong is not None:
        raise BadHistories(wrong)
    if len(histories) < FEWEST:
        raise BadHistories(len(histories))


def all_addresses(histories):
    """The addresses of the first land, then those of the next one that are new, and so on."""
    return list({name: True for history in histories for name in history.land().addresses()})


def taken(history):
    """The addresses of a history that are not free now."""
    return [address for address, row in history.scene(history.now()).lying.items() if row]


def crowded_ones(histories):
    """All addresses that are not free now in two lands or more, in order."""
    counts = {name: 0 for name in all_addresses(histories)}
    for history in histories:
        for address in taken(history):
            counts[address] += 1
    return [name for name in counts if counts[name] > 1]


def crowded(histories):
    """The addresses that are not free now in two lands or more."""
    check_histories(histories)
    return crowded_ones(histories)


def joint_groups(histories, policy, life):
    """The dict from addresses that are held to the pairs (joint holder, due) who hold them, in order."""
    names = all_addresses(histories)
    groups = {name: [] for name in names}
    for index, history in enumerate(histories):
        for holder, due in dues_within(history, policy, life, history.now()):
            told = tuple([name for name in names if name in due])
            groups[holder[0]].append(((index, holder), told))
    return {name: group for name, group in groups.items() if group}


def told_groups(histories, promise):
    """The width of a promise and the groups of joint holders who come by each address."""
    check_histories(histories)
    both = crowded_ones(histories)
    if both:
        raise Crowded(both[0])
    policy, width, life = exact_promise(promise)
    return width, joint_groups(histories, policy, life)


def joint_table(histories, promise):
    """The shortest table that serves the joint holders of several lands, None if there is none."""
    width, groups = told_groups(histories, promise)
    return table_of_groups(all_addresses(histories), width, groups)


def joint_clash(histories, promise):
    """What shows that there is no joint table, None if there is one."""
    width, groups = told_groups(histories, promise)
    return clash_of_groups(all_addresses(histories), width, groups)


def rooms(one, other):
    """The addresses of the other land to which what is crowded can move, in its order."""
    lying = one.scene(one.now()).lying
    full = taken(other)
    return [name for name in other.land().addresses() if name not in full and not lying.get(name, ())]


def crowded_in(one, other):
    """The addresses that are not free in both lands, in the order of the other one."""
    full = taken(one)
    return [name for name in taken(other) if name in full]


class Joining:
    """Two histories of which the other one makes room, and a promise."""

    def __init__(self, one, other, promise):
        check_both(one, other)
        self._one = one
        self._other = other
        self._promise = exact_promise(promise)
        self._crowded = crowded_in(one, other)
        self._rooms = rooms(one, other)

    def choices(self):
        """All lists of moves that make room."""
        full = self._crowded
        places = self._rooms
        chosen = list(permutations(places, len(full)))
        return [[("move", address, place) for address, place in zip(full, choice)] for choice in chosen]

    def moved(self, moves):
        """The other history behind moves."""
        later = self._other
        for move in moves:
            later = later.then(move)
        return later

    def is_kept(self, later, days):
        """Whether there is a joint table with the other history behind its moves, so many days later."""
        return joint_table([waited(self._one, days), waited(later, days)], self._promise) is not None

    def days_for(self, moves):
        """The least number of days behind which there is a joint table, None if there is none."""
        later = self.moved(moves)
        life = self._promise[2]
        for days in sorted(set([*days_to_try(self._one, life), *days_to_try(later, life)])):
            if self.is_kept(later, days):
                return days
        return None

    def moves_told(self, thing):
        """The moves that make room that a list tells, None if it tells none."""
        if not is_list(thing):
            return None
        moves = [told_deed(self._other.land().addresses(), part) for part in thing]
        if not all([move is not None and move[0] == "move" for move in moves]):
            return None
        places = [move[2] for move in moves]
        if [move[1] for move in moves] != self._crowded or not all([place in self._rooms for place in places]):
            return None
        return moves if len(set(places)) == len(places) else None


def check_both(one, other):
    for history in (one, other):
        if not is_history(history):
            raise BadHistory(history)


def joining(one, other, promise):
    """The moves by which the other land makes room, and the fewest days behind which both are joined, else None."""
    join = Joining(one, other, promise)
    best = None
    for moves in join.choices():
        days = join.days_for(moves)
        if days is not None and (best is None or days < best[1]):
            best = (moves, days)
    return best


def is_joining(one, other, promise, thing):
    """Whether any object is a pair of moves that make room and of days behind which both are joined."""
    join = Joining(one, other, promise)
    if not is_list(thing) or len(thing) != 2 or not is_number(thing[1]):
        return False
    moves = join.moves_told(thing[0])
    return moves is not None and join.is_kept(join.moved(moves), thing[1])


def no_room(one, other):
    """The crowded addresses and those to which they could move, if these are too few, else None."""
    check_both(one, other)
    full = crowded_in(one, other)
    places = rooms(one, other)
    return (full, places) if len(places) < len(full) else None
