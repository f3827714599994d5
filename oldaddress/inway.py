"""Who is in the way: the lots of holders of which not all can be served."""

from oldaddress.answers import dues_of
from oldaddress.entries import by_address, exact_promise, shortest_entry
from oldaddress.policies import dues_within


def lots_in_way(history, promise):
    """The dict from the addresses that no entry serves to the lots of their holders by dues, {} if it holds."""
    policy, width, life = exact_promise(promise)
    names = history.land().addresses()
    found = {}
    for address, group in by_address(dues_within(history, policy, life, history.now())).items():
        if shortest_entry(names, width, [due for holder, due in group]) is None:
            found[address] = dues_of(history, address, policy, life)
    return found


def in_way(history, deed, promise):
    """The lots that are in the way behind a deed."""
    return lots_in_way(history.then(deed), promise)
