"""Callers' own forwarders and markers, and where they fail."""

from oldaddress.checks import is_word, unlike_addresses
from oldaddress.entries import by_address, clash_of_groups, exact_promise, serves, table_of
from oldaddress.errors import NoWord
from oldaddress.functions import is_function
from oldaddress.lasting import unlike_ones
from oldaddress.policies import dues_within, holders_within
from oldaddress.refusals import BadFunction, CanBeKept


def check_function(thing):
    if not is_function(thing):
        raise BadFunction(thing)


def told_comers(history, promise, forwarder, moment):
    """The width of a promise and the served holders whom a forwarder is asked for, with their dues."""
    policy, width, life = exact_promise(promise)
    check_function(forwarder)
    return width, dues_within(history, policy, life, history.moment_told(moment))


def fault_of_forwarder(history, width, forwarder, comers):
    """The first served holder whom what a forwarder tells does not serve, with that and the due, else None."""
    names = history.land().addresses()
    told = {address: forwarder(address) for address in by_address(comers)}
    for holder, due in comers:
        entry = unlike_addresses(names, told[holder[0]])
        if entry is None or not serves(width, entry, due):
            return (holder, told[holder[0]], due)
    return None


def forwarder_fault(history, promise, forwarder, moment=None):
    """The first served holder whom a forwarder does not serve, what it told, and the due, None if it serves all."""
    width, comers = told_comers(history, promise, forwarder, moment)
    return fault_of_forwarder(history, width, forwarder, comers)


def break_forwarder(history, promise, forwarder, moment=None):
    """The fault that each forwarder has where there is no table."""
    width, comers = told_comers(history, promise, forwarder, moment)
    if table_of(history.land().addresses(), width, comers) is not None:
        raise CanBeKept()
    return fault_of_forwarder(history, width, forwarder, comers)


def words_told(history, marker):
    """The dict from holders to the words of a marker, asked moment by moment, in the order in which it was asked."""
    words = {}
    last = {}
    for moment in range(history.now() + 1):
        for address, row in history.scene(moment).lying.items():
            if row:
                word = marker(address, list(row), last.get(address))
                if not is_word(word):
                    raise NoWord(word)
                words[address, moment] = word
                last[address] = word
    return words


def marker_words(history, marker):
    """The dict from all holders, in their order, to the words that a marker tells them."""
    check_function(marker)
    words = words_told(history, marker)
    return {holder: words[holder] for holder in holders_within(history, None, history.now())}


def marker_fault(history, promise, marker):
    """The first moment at which no table keeps a promise by a marker's words, and the clash, None if there is none."""
    policy, width, life = exact_promise(promise)
    check_function(marker)
    words = words_told(history, marker)
    names = history.land().addresses()
    for moment in range(history.now() + 1):
        groups = {}
        for holder, due in dues_within(history, policy, life, moment):
            groups.setdefault((holder[0], words[holder]), []).append((holder, due))
        found = clash_of_groups(names, width, groups)
        if found is not None:
            return (moment, found)
    return None


def marker_lasts(history, marker):
    """The first moment with two holders of one address and word who are not alike, and these, None if there is none."""
    check_function(marker)
    words = words_told(history, marker)
    for moment in range(history.now() + 1):
        pairs = [pair for pair in unlike_ones(history, None, moment) if words[pair[0]] == words[pair[1]]]
        if pairs:
            return (moment, *pairs[0])
    return None
