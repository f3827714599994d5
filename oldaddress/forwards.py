"""Books: entries that lead on from address to address, and where one arrives who follows them."""

from oldaddress.checks import is_word_of, unlike_addresses
from oldaddress.errors import NoAddress
from oldaddress.lands import check_land
from oldaddress.refusals import BadBook


def in_order(names, addresses):
    """The tuple of some addresses in the order of the names."""
    return tuple([name for name in names if name in addresses])


def book_told(names, thing):
    """The book that a dict tells, all in the order of the names, None if it tells none."""
    if not isinstance(thing, dict) or not all([is_word_of(names, key) for key in thing]):
        return None
    book = {}
    for name in names:
        if name in thing:
            entry = unlike_addresses(names, thing[name])
            if entry is None or name in entry:
                return None
            book[name] = in_order(names, entry)
    return book


def exact_book(land, book):
    check_land(land)
    told = book_told(land.addresses(), book)
    if told is None:
        raise BadBook(book)
    return told


def come_by(book, address):
    """All addresses that one comes by who follows a book from an address, this one ahead."""
    met = [address]
    index = 0
    while index < len(met):
        met.extend([other for other in book.get(met[index], ()) if other not in met])
        index += 1
    return met


def ring_among(book, addresses):
    """A list of some addresses of which each one's entry has the next, the last one's the first, else None."""
    inner = [address for address in addresses if address in book]
    outer = None
    while inner != outer:
        outer = inner
        inner = [address for address in outer if any([other in outer for other in book[address]])]
    if not inner:
        return None
    way = inner[:1]
    while True:
        step = [other for other in book[way[-1]] if other in inner][0]
        if step in way:
            return way[way.index(step) :]
        way.append(step)


def arrivals(names, book, address):
    """The addresses at which one arrives who follows a book, None if one goes round."""
    met = come_by(book, address)
    if ring_among(book, met) is not None:
        return None
    return in_order(names, [other for other in met if other not in book])


def check_address(land, address):
    if not is_word_of(land.addresses(), address):
        raise NoAddress(address)


def follow(land, book, address):
    """The addresses at which one arrives who follows a book from an address, None if one goes round."""
    told = exact_book(land, book)
    check_address(land, address)
    return arrivals(land.addresses(), told, address)


def ring_of(land, book, address):
    """A ring to which one comes who follows a book from an address, None if there is none."""
    told = exact_book(land, book)
    check_address(land, address)
    return ring_among(told, come_by(told, address))
