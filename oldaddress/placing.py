"""Places: where the pieces of a row stand, as triples (address, first index, last index), and how deeds move them."""

from oldaddress.policies import due_by
from oldaddress.rows import size_of
from oldaddress.spots import parted


def put_behind(found, place):
    """Adds a place behind others, where it goes on the last one to this."""
    if found and found[-1][0] == place[0] and found[-1][2] + 1 == place[1]:
        found[-1] = (place[0], found[-1][1], place[2])
    else:
        found.append(place)


def indexed_spots(lying):
    """The ascending spots of all pieces that live, told by addresses and by how far indexes are from pieces."""
    found = []
    for address, row in lying.items():
        index = 0
        for first, last in row:
            found.append((first, last, (address, index - first)))
            index += last - first + 1
    return sorted(found)


def places_at(spots, row):
    """The places of what lives of a row at such spots, in the row's order."""
    found = []
    for first, last, spot in parted(row, spots):
        if spot is not None:
            put_behind(found, (spot[0], spot[1] + first, spot[1] + last))
    return tuple(found)


def whole_places(address, size):
    """The places of all that lies at an address, () if it is free."""
    return ((address, 0, size - 1),) if size > 0 else ()


def places_due(names, policy, places):
    """The due of who means what stands at some places."""
    return due_by(names, policy, [(first, last, address) for address, first, last in places])


def sizes_in(lying):
    """How many pieces lie at each address, in the land's order."""
    return tuple([size_of(row) for row in list(lying.values())])


def carries_of(sizes, deed):
    """The dict from addresses of which a deed takes pieces to tuples (begin, behind, to, shift) of those that stay.

    Indexes from begin on, less than behind, come to an address, shifted; all others of the address are gone.
    """
    word = deed[0]
    if word == "make" or word == "grow" or word == "wait":
        return {}
    at = deed[1]
    size = sizes[at]
    if word == "move" or word == "pour":
        return {at: ((0, size, deed[2], sizes[deed[2]]),)}
    if word == "swap":
        return {at: ((0, size, deed[2], 0),), deed[2]: ((0, sizes[deed[2]], at, 0),)}
    if word == "cut":
        return {at: ((0, deed[2], at, 0), (deed[2], size, deed[3], -deed[2]))}
    if word == "split":
        return {at: ((0, deed[2], deed[3], 0), (deed[2], size, deed[4], -deed[2]))}
    if word == "drop":
        return {at: ((0, deed[2], at, 0), (deed[2] + deed[3], size, at, -deed[3]))}
    return {at: ()}


def sizes_behind(sizes, deed, carries):
    """The dict from addresses to how many pieces lie there behind a deed."""
    behind = {address: 0 if address in carries else size for address, size in sizes.items()}
    if deed[0] == "make" or deed[0] == "grow":
        behind[deed[1]] += deed[2]
    for stays in list(carries.values()):
        for begin, end, to, shift in stays:
            behind[to] += end - begin
    return behind


def carried(carries, places):
    """The places behind a deed of what stands at some places, what is gone left out."""
    found = []
    for address, first, last in places:
        if address not in carries:
            put_behind(found, (address, first, last))
            continue
        for begin, end, to, shift in carries[address]:
            low = max(first, begin)
            high = min(last, end - 1)
            if low <= high:
                put_behind(found, (to, low + shift, high + shift))
    return tuple(found)
