"""Lazy books: what is written if each deed writes no more than itself, and whom it leads where."""

from oldaddress.forwards import arrivals, in_order
from oldaddress.policies import check_life, due_by, dues_within, exact_holder, moment_since, parts_of
from oldaddress.promises import table


def entry_written(names, deed):
    """The entry that a deed writes at its first address, if this is free behind it."""
    if deed[0] == "move" or deed[0] == "pour":
        return (deed[2],)
    if deed[0] == "split":
        return in_order(names, deed[3:])
    return ()


def book_at(history, moment):
    """The lazy book of a moment, in the land's order."""
    book = {}
    names = history.land().addresses()
    for behind, deed in enumerate(history.deeds()[:moment], start=1):
        ahead = history.scene(behind - 1).lying
        lying = history.scene(behind).lying
        for name in names:
            if lying[name]:
                book.pop(name, None)
            elif ahead[name]:
                book[name] = entry_written(names, deed)
    return {name: book[name] for name in names if name in book}


def lazy_book(history, moment=None):
    """The book that is written if each deed writes no more than itself."""
    return book_at(history, history.moment_told(moment))


def led_to(history, address, moment):
    """Where one arrives who follows the lazy book of a moment from an address: it never goes round."""
    return arrivals(history.land().addresses(), book_at(history, moment), address)


def due_at(history, holder, moment):
    """The due by "all" of a holder."""
    return due_by(history.land().addresses(), "all", parts_of(history, holder, moment))


def word_of(led, due):
    """How somebody is led who has a due."""
    if led == due:
        return "right"
    if due == ():
        return "stranger"
    if led == ():
        return "gone"
    if all([address in led for address in due]):
        return "more"
    if all([address in due for address in led]):
        return "less"
    return "other"


def how_led(history, holder, moment=None):
    """A word for how the lazy book leads a holder at a moment."""
    told = exact_holder(history, holder)
    at = moment_since(history, told[1], moment)
    return word_of(led_to(history, told[0], at), due_at(history, told, at))


def first_misled(history, life, moment=None):
    """The first holder within life whom the lazy book does not lead right, None if there is none."""
    check_life(life)
    at = history.moment_told(moment)
    names = history.land().addresses()
    book = book_at(history, at)
    led = {address: arrivals(names, book, address) for address in names}
    for holder, due in dues_within(history, "all", life, at):
        if led[holder[0]] != due:
            return holder
    return None


def cause(history, holder, moment=None):
    """The moment since which the lazy book misleads a holder, None if it leads them right."""
    told = exact_holder(history, holder)
    since = None
    at = moment_since(history, told[1], moment)
    while at > told[1] and led_to(history, told[0], at) != due_at(history, told, at):
        since = at
        at -= 1
    return since


def right_book(history, life, moment=None):
    """The book with the fewest entries that leads all within life to their dues, None if there is none."""
    check_life(life)
    entries = table(history, ("all", None, life), moment)
    if entries is None:
        return None
    return {address: entry for address, entry in entries.items() if entry != (address,)}
