"""Histories whose lazy books are given ones."""

from oldaddress.forwards import exact_book, ring_among
from oldaddress.histories import History
from oldaddress.rows import size_of

MOST_IN_ENTRY = 2


def order_to_write(book):
    """The addresses of a book without rings, each ahead of those of its entry."""
    left = list(book)
    order = []
    while left:
        led = [other for address in left for other in book[address]]
        free = [address for address in left if address not in led]
        order.extend(free)
        left = [address for address in left if address in led]
    return order


def supplied(history, address, many):
    """The history with at least so many pieces at an address."""
    for word in ("make", "grow"):
        lacking = many - size_of(history.row(address))
        if lacking > 0 and history.can((word, address, lacking)):
            history = history.then((word, address, lacking))
    return history


def emptied(history, address):
    return history.then(("end", address)) if history.row(address) else history


def written(history, address, entry):
    """The history behind whose last deed the lazy book has an entry at an address."""
    later = history
    for other in entry:
        # What lies where something has to go ends: its own entry is written later, if it has one.
        later = emptied(later, other)
    later = supplied(later, address, max(1, len(entry)))
    if not entry:
        return later.then(("end", address))
    if len(entry) == 1:
        return later.then(("move", address, entry[0]))
    return later.then(("split", address, 1, entry[0], entry[1]))


def book_history(land, book):
    """A history whose lazy book is a given one, None if there is none."""
    told = exact_book(land, book)
    if ring_among(told, list(told)) is not None:
        return None
    if any([len(entry) > MOST_IN_ENTRY for entry in list(told.values())]):
        return None
    history = History(land, [])
    for address in order_to_write(told):
        history = written(history, address, told[address])
    return history
