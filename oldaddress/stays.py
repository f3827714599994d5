"""Stays: things that lie at an address for some days, which is bound for longer, and addresses given to them."""

from oldaddress.checks import first_wrong, is_list, is_number
from oldaddress.errors import BadIndex
from oldaddress.policies import check_ending_life
from oldaddress.refusals import BadDay, BadMany, BadStays
from oldaddress.rows import stretches_of
from oldaddress.spans import first_day_above, most_at_once


def is_stay(thing):
    """Whether any object is a stay: three numbers, the first at most the second."""
    if not is_list(thing) or len(thing) != 3 or not all([is_number(part) for part in thing]):
        return False
    return thing[0] <= thing[1]


def told_stays(stays):
    """The stays of a list, as tuples, BadStays if it is no such list."""
    wrong = first_wrong(stays, is_stay)
    if wrong is not None:
        raise BadStays(wrong)
    return [tuple(stay) for stay in stays]


def check_many(many):
    if not is_number(many):
        raise BadMany(many)


def check_index(stays, index):
    if not is_number(index) or index >= len(stays):
        raise BadIndex(index)


def bound_spans(stays):
    """The days from which and to which stays bind their addresses."""
    return [(begin, end + life) for begin, end, life in stays]


def by_begins(stays):
    """The indexes of stays by their begins, then as they stand."""
    return sorted(range(len(stays)), key=lambda index: stays[index][0])


def numbers_told(stays, many, thing):
    """The list of numbers below many, one for each stay, that a thing tells, None if it tells none."""
    if not is_list(thing) or len(thing) != len(stays):
        return None
    return list(thing) if all([is_number(number) and number < many for number in thing]) else None


def lots_by_number(stays, numbers):
    """The lists of those stays that have one number."""
    lots = {}
    for stay, number in zip(stays, numbers):
        lots.setdefault(number, []).append(stay)
    return list(lots.values())


def is_giving(stays, many, thing):
    """Whether any object gives to each stay one of so many addresses, none of them bound twice on a day."""
    told = told_stays(stays)
    check_many(many)
    numbers = numbers_told(told, many, thing)
    if numbers is None:
        return False
    return all([most_at_once(bound_spans(lot)) == 1 for lot in lots_by_number(told, numbers)])


def giving(stays, many):
    """For each stay, by begins, the least address that is not bound then, None if there are too few."""
    told = told_stays(stays)
    check_many(many)
    bound_to = []
    numbers = [0 for stay in told]
    for index in by_begins(told):
        begin, end, life = told[index]
        free = [number for number, last in enumerate(bound_to) if last < begin]
        if free:
            numbers[index] = free[0]
            bound_to[free[0]] = end + life
        elif len(bound_to) < many:
            numbers[index] = len(bound_to)
            bound_to.append(end + life)
        else:
            return None
    return numbers


def full_day(stays, many):
    """The first day on which more than so many stays are bound, None if there is none."""
    told = told_stays(stays)
    check_many(many)
    return first_day_above(bound_spans(told), many)


def least_addresses(stays):
    """The least number of addresses with a giving."""
    return most_at_once(bound_spans(told_stays(stays)))


def moved(stays, index, day):
    """The stays of which one ends ahead of a day and goes on elsewhere from then on."""
    told = told_stays(stays)
    check_index(told, index)
    begin, end, life = told[index]
    if not is_number(day) or not begin < day <= end:
        raise BadDay(day)
    return [*told[:index], (begin, day - 1, life), (day, end, life), *told[index + 1 :]]


def shortened(stays, life):
    """The stays with lives of at most this one."""
    return [(begin, end, min(told, life)) for begin, end, told in stays]


def with_life(stays, life):
    """The stays each life of which is cut down to this one."""
    told = told_stays(stays)
    check_ending_life(life)
    return shortened(told, life)


def lives_to_try(stays):
    """The ascending lives, 0 among them, with which a stay first binds its address when another one begins."""
    found = {0: True}
    for begin, end, life in stays:
        for later, until, other in stays:
            if end < later <= end + life:
                found[later - end] = True
    return sorted(list(found))


def needs(stays):
    """The pairs (life, least_addresses with it) of the lives with which more are needed than with less."""
    found = []
    for life in lives_to_try(stays):
        many = most_at_once(bound_spans(shortened(stays, life)))
        if not found or many > found[-1][1]:
            found.append((life, many))
    return found


def needs_by_life(stays):
    """The pairs (life, least_addresses with it) at which more are needed than with less, life 0 ahead."""
    return needs(told_stays(stays))


def life_for(stays, many):
    """The greatest life, at most that of the stays, with which so many addresses are enough, None if none is."""
    told = told_stays(stays)
    check_many(many)
    too_great = [life for life, needed in needs(told) if needed > many]
    if not too_great:
        return max([0, *[life for begin, end, life in told]])
    return too_great[0] - 1 if too_great[0] > 0 else None


def stays_of(history, life):
    """The stays of what lay at each address, as long as it was not free, with a life."""
    check_ending_life(life)
    found = []
    for address in history.land().addresses():
        moments = [moment for moment in range(history.now() + 1) if history.scene(moment).lying[address]]
        for first, last in stretches_of(moments):
            found.append((history.day(first), history.last_day(last), life))
    return found
