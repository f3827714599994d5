"""Addresses that part into lots none of whose holders is due to another one, and holders who tie two together."""

from oldaddress.checks import is_list
from oldaddress.doing import waited
from oldaddress.policies import check_life, days_to_try, dues_within, holder_told


def joined_by(history, life, moment):
    """The dict from holders within life to the addresses that each of them joins."""
    return {holder: (holder[0], *due) for holder, due in dues_within(history, "all", life, moment)}


def ways_from(joins, address):
    """The dict from all addresses to which one can go from one to as few holders as can be along which."""
    ways = {address: []}
    queue = [address]
    index = 0
    while index < len(queue):
        here = queue[index]
        for holder, joined in joins.items():
            if here in joined:
                for there in joined:
                    if there not in ways:
                        ways[there] = [*ways[here], holder]
                        queue.append(there)
        index += 1
    return ways


def finest_parting(history, life, moment=None):
    """The lots of addresses, as many as can be, such that no holder within life is due to another lot."""
    check_life(life)
    joins = joined_by(history, life, history.moment_told(moment))
    names = history.land().addresses()
    lots = []
    for name in names:
        if not any([name in lot for lot in lots]):
            ways = ways_from(joins, name)
            lots.append([other for other in names if other in ways])
    return lots


def told_joins(history, life, one, other, moment):
    """The holders at a moment that is meant and what they join, if all else is right, too."""
    check_life(life)
    history.address_told(one)
    history.address_told(other)
    return joined_by(history, life, history.moment_told(moment))


def tie(history, life, one, other, moment=None):
    """As few holders as can be along which one can go from one address to another, None if they are apart."""
    return ways_from(told_joins(history, life, one, other, moment), one).get(other)


def is_tie(history, life, one, other, thing, moment=None):
    """Whether any object is a list of holders along which one can go from one address to another."""
    joins = told_joins(history, life, one, other, moment)
    if not is_list(thing):
        return False
    here = (one,)
    for part in thing:
        there = joins.get(holder_told(history, part), ())
        if not any([address in there for address in here]):
            return False
        here = there
    return other in here


def apart_in(history, life, one, other):
    """The least number of days behind which two addresses are apart, None if no number is enough."""
    told_joins(history, life, one, other, None)
    for days in days_to_try(history, life):
        if tie(waited(history, days), life, one, other) is None:
            return days
    return None
