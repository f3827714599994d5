"""Late stays: which wait, where there are too few addresses, until one is not bound any more."""

from oldaddress.checks import is_from_one, is_number
from oldaddress.refusals import BadDay, BadMany
from oldaddress.stays import by_begins, check_index, told_stays


def check_from_one(many):
    if not is_from_one(many):
        raise BadMany(many)


def begins_and_causes(stays, many):
    """For each stay the pair of the day on which it begins and of whom it waits for at its address, None on time."""
    # No stay ever comes by more addresses than there are stays.
    free_from = [0 for number in range(min(many, max(1, len(stays))))]
    last_there = [None for number in free_from]
    found = [(0, None) for stay in stays]
    for index in by_begins(stays):
        begin, end, life = stays[index]
        day = max(begin, min(free_from))
        number = [place for place, free in enumerate(free_from) if free <= day][0]
        found[index] = (day, last_there[number] if day > begin else None)
        free_from[number] = day + end - begin + life + 1
        last_there[number] = index
    return found


def latest_of(stays, many):
    """The most days that a stay is later than its begin."""
    pairs = begins_and_causes(stays, many)
    return max([0, *[day - begin for (day, ahead), (begin, end, life) in zip(pairs, stays)]])


def late_begins(stays, many):
    """The days on which stays begin, each as soon as one of so many addresses is not bound."""
    told = told_stays(stays)
    check_from_one(many)
    return [day for day, ahead in begins_and_causes(told, many)]


def latest(stays, many):
    """The most days that one of the stays is later than its begin."""
    told = told_stays(stays)
    check_from_one(many)
    return latest_of(told, many)


def in_the_way(stays, many, index):
    """The indexes of stays up to this one of which each waits for the one ahead, the first one being on time."""
    told = told_stays(stays)
    check_from_one(many)
    check_index(told, index)
    pairs = begins_and_causes(told, many)
    found = [index]
    while pairs[found[-1]][1] is not None:
        found.append(pairs[found[-1]][1])
    return found[::-1]


def addresses_for(stays, late):
    """The least number of addresses with which no stay is later than so many days."""
    told = told_stays(stays)
    if not is_number(late):
        raise BadDay(late)
    many = 1
    while latest_of(told, many) > late:
        many += 1
    return many
