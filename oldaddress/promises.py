"""Promises: tables that keep them, and clashes that show that there is none."""

from oldaddress.checks import is_list, unlike_addresses
from oldaddress.entries import are_at_odds, clash_of, exact_promise, promise_told, serves, table_of, told_entries
from oldaddress.errors import BadTable
from oldaddress.policies import dues_within, holder_told


def is_promise(thing):
    """Whether any object is a promise."""
    return promise_told(thing) is not None


def table(history, promise, moment=None):
    """The shortest table that keeps a promise at a moment, None if there is none."""
    policy, width, life = exact_promise(promise)
    comers = dues_within(history, policy, life, history.moment_told(moment))
    return table_of(history.land().addresses(), width, comers)


def keeps(history, promise, moment=None):
    """Whether a promise is kept at a moment."""
    return table(history, promise, moment) is not None


def unserved(width, entries, comers):
    """The holders among comers whom no entry of their address serves."""
    found = []
    for holder, due in comers:
        if holder[0] not in entries or not serves(width, entries[holder[0]], due):
            found.append(holder)
    return found


def is_table(history, promise, thing, moment=None):
    """Whether any object is a table that keeps a promise at a moment."""
    policy, width, life = exact_promise(promise)
    comers = dues_within(history, policy, life, history.moment_told(moment))
    entries = told_entries(history.land().addresses(), thing)
    if entries is None or unserved(width, entries, comers):
        return False
    return set(entries) == set([holder[0] for holder, due in comers])


def clash(history, promise, moment=None):
    """What shows that there is no table, None if there is one."""
    policy, width, life = exact_promise(promise)
    comers = dues_within(history, policy, life, history.moment_told(moment))
    return clash_of(history.land().addresses(), width, comers)


def is_quarrel(history, width, dues, thing):
    """Whether a list is two served holders of one address that no entry serves both."""
    told = [holder_told(history, part) for part in thing]
    if len(told) != 2 or not all([holder in dues for holder in told]) or told[0][0] != told[1][0]:
        return False
    return are_at_odds(width, dues[told[0]], dues[told[1]])


def is_crowd(history, width, dues, thing):
    """Whether a list is of as many pairs (address, holder), due from one address, as are too many."""
    if width is None or len(thing) != width + 1:
        return False
    if not all([is_list(pair) and len(pair) == 2 for pair in thing]):
        return False
    addresses = unlike_addresses(history.land().addresses(), [pair[0] for pair in thing])
    told = [holder_told(history, pair[1]) for pair in thing]
    if addresses is None or not all([holder in dues for holder in told]):
        return False
    if not all([holder[0] == told[0][0] for holder in told]):
        return False
    return all([address in dues[holder] for address, holder in zip(addresses, told)])


def is_clash(history, promise, thing, moment=None):
    """Whether any object shows that there is no table at a moment."""
    policy, width, life = exact_promise(promise)
    comers = dues_within(history, policy, life, history.moment_told(moment))
    if not is_list(thing):
        return False
    dues = {holder: due for holder, due in comers}
    return is_quarrel(history, width, dues, thing) or is_crowd(history, width, dues, thing)


def entries_and_comers(history, promise, thing, moment):
    """The entries that a dict tells, BadTable if it is none, and the holders served, with their dues."""
    policy, width, life = exact_promise(promise)
    entries = told_entries(history.land().addresses(), thing)
    if entries is None:
        raise BadTable(thing)
    return entries, dues_within(history, policy, life, history.moment_told(moment))


def misled(history, promise, thing, moment=None):
    """The served holders whose address has no entry in a dict, or one that does not serve them."""
    entries, comers = entries_and_comers(history, promise, thing, moment)
    return unserved(promise[1], entries, comers)


def mended(history, promise, thing, moment=None):
    """The dict with table's entries at the addresses of the misled, None if there is no table."""
    entries, comers = entries_and_comers(history, promise, thing, moment)
    names = history.land().addresses()
    right = table_of(names, promise[1], comers)
    if right is None:
        return None
    wrong = [holder[0] for holder in unserved(promise[1], entries, comers)]
    healed = {}
    for name in names:
        if name in wrong:
            healed[name] = right[name]
        elif name in entries:
            healed[name] = entries[name]
    return healed
