"""The document's words of books, entry by entry, to compare the program with."""

import itertools
import random


def naive_follow(book, address, ahead=()):
    """All addresses at which one arrives, way by way; None as soon as one comes to where one was."""
    if address in ahead:
        return None
    if address not in book:
        return {address}
    found = set()
    for other in book[address]:
        arrived = naive_follow(book, other, ahead + (address,))
        if arrived is None:
            return None
        found |= arrived
    return found


def in_order(addresses, found):
    return tuple(address for address in addresses if address in found)


def comes_by(book, address, wanted):
    """Whether one comes by an address as one follows, of a book without rings."""
    return address == wanted or any(comes_by(book, other, wanted) for other in book.get(address, ()))


def naive_lazy_book(naive, moment):
    book = {}
    for behind in range(1, moment + 1):
        deed = naive.deeds[behind - 1]
        for address in naive.addresses:
            if not naive.rows[behind - 1][address] and naive.rows[behind][address]:
                book.pop(address, None)
        if deed[0] in ("move", "pour"):
            book[deed[1]] = (deed[2],)
        elif deed[0] == "split":
            book[deed[1]] = in_order(naive.addresses, deed[3:])
        elif deed[0] == "end" or (deed[0] == "drop" and not naive.rows[behind][deed[1]]):
            book[deed[1]] = ()
    return {address: book[address] for address in naive.addresses if address in book}


def all_books(addresses, most_in_entry):
    """All books of some addresses."""
    choices = []
    for address in addresses:
        others = [other for other in addresses if other != address]
        entries = [e for many in range(most_in_entry + 1) for e in itertools.combinations(others, many)]
        choices.append([None] + entries)
    for chosen in itertools.product(*choices):
        yield {address: entry for address, entry in zip(addresses, chosen) if entry is not None}


def random_books(seed, count, most_in_entry=5):
    """Pairs (addresses, book), some with rings."""
    rng = random.Random(seed)
    for _ in range(count):
        addresses = rng.sample(["a", "b", "c", "d", "e", "f"], rng.randint(2, 6))
        book = {}
        for index, address in enumerate(addresses):
            if rng.random() < 0.7:
                later = addresses[index + 1:]
                others = later if rng.random() < 0.8 else [other for other in addresses if other != address]
                many = min(len(others), rng.choice((0, 1, 1, 2, 2, 3)), most_in_entry)
                book[address] = tuple(rng.sample(others, many))
        yield rng.sample(addresses, len(addresses)), book
