"""Entries of lazy books that somebody within life comes by."""

from oldaddress.forwards import come_by, in_order
from oldaddress.lazybooks import book_at
from oldaddress.policies import check_life, holders_within


def those_who_come_by(history, address, life, moment):
    """The holders within life who come by an entry at an address as they follow the lazy book of a moment."""
    book = book_at(history, moment)
    if address not in book:
        return []
    return [holder for holder in holders_within(history, life, moment) if address in come_by(book, holder[0])]


def needed(history, life, moment=None):
    """The addresses whose entries somebody within life comes by."""
    check_life(life)
    told = history.moment_told(moment)
    book = book_at(history, told)
    held = {holder[0]: True for holder in holders_within(history, life, told)}
    met = [other for address in held for other in come_by(book, address) if other in book]
    return list(in_order(history.land().addresses(), met))


def who_needs(history, address, life, moment=None):
    """The first holder within life who comes by an entry at an address, None if nobody does."""
    history.address_told(address)
    check_life(life)
    found = those_who_come_by(history, address, life, history.moment_told(moment))
    return found[0] if found else None


def needed_days(history, address, life):
    """The least number of days behind which nobody within life comes by an entry, None if there is none."""
    history.address_told(address)
    check_life(life)
    ages = [history.age(holder[1]) for holder in those_who_come_by(history, address, life, history.now())]
    if not ages:
        return 0
    # They hold addresses that are free, so that by waiting nobody learns one anew.
    return None if life is None else life + 1 - min(ages)
