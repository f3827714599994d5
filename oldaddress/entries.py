"""Entries of tables: what serves some holders of addresses, and what shows that nothing does.

Comers are lists of pairs (holder, due), in the order of holders: by addresses, then by moments.
"""

from oldaddress.checks import is_life, is_list, is_policy, is_width, is_word_of, unlike_addresses
from oldaddress.errors import BadPromise


def promise_told(thing):
    """The promise that a thing tells, as a tuple, None if it tells none."""
    if not is_list(thing) or len(thing) != 3:
        return None
    policy, width, life = thing
    if not is_policy(policy) or not is_width(width) or not is_life(life):
        return None
    return (policy, width, life)


def exact_promise(thing):
    promise = promise_told(thing)
    if promise is None:
        raise BadPromise(thing)
    return promise


def told_entries(names, thing):
    """The entries that a dict tells, as tuples, in the order of the names, None if it is no such dict."""
    if not isinstance(thing, dict) or not all([is_word_of(names, key) for key in thing]):
        return None
    entries = {name: unlike_addresses(names, thing[name]) for name in names if name in thing}
    return None if None in list(entries.values()) else entries


def serves(width, entry, due):
    """Whether an entry, a tuple of unlike addresses, serves who has this due."""
    if width is None:
        return entry == due
    if due == ():
        return entry == ()
    return len(entry) <= width and all([address in entry for address in due])


def are_at_odds(width, one, other):
    """Whether no entry serves two dues, however great the width, if there is one."""
    if width is None:
        return one != other
    return (one == ()) != (other == ())


def addresses_in(names, dues):
    """The tuple, in the order of the names, of the addresses that stand in some due."""
    standing = {address: True for due in dues for address in due}
    return tuple([name for name in names if name in standing])


def shortest_entry(names, width, dues):
    """The shortest entry that serves one or more dues, None if none does."""
    if any([are_at_odds(width, dues[0], due) for due in dues]):
        return None
    entry = addresses_in(names, dues)
    return entry if width is None or len(entry) <= width else None


def by_address(comers):
    """The dict from addresses to the comers that hold them, both in their order."""
    found = {}
    for holder, due in comers:
        found.setdefault(holder[0], []).append((holder, due))
    return found


def table_of_groups(names, width, groups):
    """The dict from what groups of comers stand under to the shortest entries, None if one has none."""
    entries = {}
    for key, group in groups.items():
        entry = shortest_entry(names, width, [due for holder, due in group])
        if entry is None:
            return None
        entries[key] = entry
    return entries


def table_of(names, width, comers):
    """The dict from the addresses of comers to the shortest entries, None if one has none."""
    return table_of_groups(names, width, by_address(comers))


def clash_in(names, width, group):
    """Two comers of one address that are at odds, or as many pairs (address, holder) as are too many."""
    first, told = group[0]
    for holder, due in group:
        if are_at_odds(width, told, due):
            return (first, holder)
    pairs = []
    for name in addresses_in(names, [due for holder, due in group]):
        pairs.append((name, [holder for holder, due in group if name in due][0]))
    return pairs[: width + 1]


def clash_of_groups(names, width, groups):
    """The clash of the first group of comers that no entry serves, None if there is none."""
    for group in list(groups.values()):
        if shortest_entry(names, width, [due for holder, due in group]) is None:
            return clash_in(names, width, group)
    return None


def clash_of(names, width, comers):
    """The clash of the first address that no entry serves, None if there is a table."""
    return clash_of_groups(names, width, by_address(comers))
