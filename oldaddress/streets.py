"""Streets: the houses to which addresses belong, and who comes to which door."""

from oldaddress.checks import is_list, is_name, is_number, is_word_of
from oldaddress.entries import clash_of, exact_promise, table_of
from oldaddress.errors import BadHolder
from oldaddress.histories import History
from oldaddress.policies import dues_within, exact_holder, moment_since
from oldaddress.refusals import BadHeirs, BadHistory, BadOwners, BadTurns, NoHouse


def are_owners(names, thing):
    """Whether any object is a dict from just these addresses to names."""
    if not isinstance(thing, dict) or len(thing) != len(names):
        return False
    return all([is_word_of(names, address) and is_name(house) for address, house in thing.items()])


def are_heirs(owners, thing):
    """Whether any object is a dict from houses, all owners among them, to houses or None."""
    if not isinstance(thing, dict) or not all([is_name(house) for house in thing]):
        return False
    if not all([house in thing for house in list(owners.values())]):
        return False
    return all([heir is None or is_word_of(thing, heir) for heir in list(thing.values())])


def turn_told(names, heirs, now, thing):
    """The turn that a thing tells, as a tuple, None if it tells none."""
    if not is_list(thing) or len(thing) < 3 or not is_word_of(("hand", "close"), thing[0]):
        return None
    if not is_number(thing[1]) or thing[1] > now or not is_word_of(heirs, thing[-1]):
        return None
    if thing[0] == "close":
        return tuple(thing) if len(thing) == 3 else None
    if len(thing) != 4 or not is_word_of(names, thing[2]):
        return None
    return tuple(thing)


def owners_behind(owners, turns):
    """The owners of addresses behind some turns, hands alone."""
    owned = dict(owners)
    for turn in turns:
        if turn[0] == "hand":
            owned[turn[2]] = turn[3]
    return owned


def houses_closed(turns):
    return [turn[2] for turn in turns if turn[0] == "close"]


def turn_can_be_done(owners, turns, turn):
    """Whether a turn can be done behind these."""
    if turns and turn[1] < turns[-1][1]:
        return False
    if turn[-1] in houses_closed(turns):
        return False
    return turn[0] == "close" or owners_behind(owners, turns)[turn[2]] != turn[3]


def told_turns(history, owners, heirs, turns):
    """The turns of a list, as tuples, BadTurns if one is none or cannot be done."""
    if not is_list(turns):
        raise BadTurns(0)
    names = history.land().addresses()
    done = []
    for index, thing in enumerate(turns):
        turn = turn_told(names, heirs, history.now(), thing)
        if turn is None or not turn_can_be_done(owners, done, turn):
            raise BadTurns(index)
        done.append(turn)
    return tuple(done)


def door_by(heirs, shut, house):
    """The first open house from one on along the heirs, None if there is none."""
    passed = {}
    while house in shut:
        passed[house] = True
        house = heirs[house]
        if house in passed:
            return None
    return house


class Street:
    """A history whose addresses belong to houses, from moment to moment."""

    def __init__(self, history, owners, heirs, turns):
        if not isinstance(history, History):
            raise BadHistory(history)
        if not are_owners(history.land().addresses(), owners):
            raise BadOwners(owners)
        if not are_heirs(owners, heirs):
            raise BadHeirs(heirs)
        self._history = history
        self._owners = dict(owners)
        self._heirs = dict(heirs)
        self._turns = told_turns(history, self._owners, self._heirs, turns)

    def __eq__(self, other):
        if not isinstance(other, Street):
            return False
        if self._history != other._history or self._turns != other._turns:
            return False
        return self._owners == other._owners and self._heirs == other._heirs

    def history(self):
        return self._history

    def houses(self):
        return sorted(list(self._heirs))

    def turns(self):
        return list(self._turns)

    def owners(self):
        """The owners of all addresses at the beginning."""
        return dict(self._owners)

    def heirs(self):
        return dict(self._heirs)

    def check_house(self, house):
        if not is_word_of(self._heirs, house):
            raise NoHouse(house)

    def owner(self, address, moment=None):
        self._history.address_told(address)
        told = self._history.moment_told(moment)
        return owners_behind(self._owners, [turn for turn in self._turns if turn[1] <= told])[address]

    def door(self, house, moment=None):
        self.check_house(house)
        told = self._history.moment_told(moment)
        shut = houses_closed([turn for turn in self._turns if turn[1] <= told])
        return door_by(self._heirs, shut, house)

    def door_to_learn(self, address, moment):
        """The door of an address's owner at a moment, ahead of the closings of this moment."""
        shut = houses_closed([turn for turn in self._turns if turn[1] < moment])
        return door_by(self._heirs, shut, self.owner(address, moment))


def learned_at(street, address, moment):
    """The house at which one learns an address at a moment, None if nobody can."""
    history = street.history()
    history.address_told(address)
    told = history.exact_moment(moment)
    if not history.scene(told).lying[address]:
        return None
    return street.door_to_learn(address, told)


def comes_to(street, holder, moment=None):
    """The house to which a holder comes at a moment, None if there is none."""
    history = street.history()
    told = exact_holder(history, holder)
    house = learned_at(street, told[0], told[1])
    if house is None:
        raise BadHolder(holder)
    return street.door(house, moment_since(history, told[1], moment))


def comers_by_door(street, policy, life, moment):
    """The dict from houses, None for no door, to the pairs (holder, due) who come there, in order."""
    found = {}
    for holder, due in dues_within(street.history(), policy, life, moment):
        house = learned_at(street, holder[0], holder[1])
        if house is not None:
            found.setdefault(street.door(house, moment), []).append((holder, due))
    return found


def first_shut_out(comers):
    """The first of those without a door of whom something lives, None if there is none."""
    alive = [holder for holder, due in comers if due != ()]
    return alive[0] if alive else None


def door_tables(street, promise, moment=None):
    """The tables of the houses to which holders come, None if there are not all."""
    policy, width, life = exact_promise(promise)
    told = street.history().moment_told(moment)
    names = street.history().land().addresses()
    comers = comers_by_door(street, policy, life, told)
    if first_shut_out(comers.get(None, [])) is not None:
        return None
    houses = sorted([house for house in comers if house is not None])
    tables = {house: table_of(names, width, comers[house]) for house in houses}
    return None if None in list(tables.values()) else tables


def door_clash(street, promise, moment=None):
    """What shows that there are no door_tables, None if there are."""
    policy, width, life = exact_promise(promise)
    told = street.history().moment_told(moment)
    names = street.history().land().addresses()
    comers = comers_by_door(street, policy, life, told)
    holder = first_shut_out(comers.get(None, []))
    if holder is not None:
        return (None, holder)
    for house in sorted([house for house in comers if house is not None]):
        clash = clash_of(names, width, comers[house])
        if clash is not None:
            return (house, clash)
    return None
