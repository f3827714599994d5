"""Where the pieces of a row lie at a moment, stretch by stretch."""

from oldaddress.rows import row_of


def spots_of(lying):
    """The ascending list of the triples (first, last, address) of all pieces that live."""
    return sorted([(first, last, address) for address, row in lying.items() for first, last in row])


def first_behind(spots, piece):
    """The index of the first spot that ends at a piece or behind it."""
    low = 0
    high = len(spots)
    while low < high:
        middle = (low + high) // 2
        if spots[middle][1] < piece:
            low = middle + 1
        else:
            high = middle
    return low


def lengthen(parts, first, last, place):
    """Adds a stretch at a place behind parts, where it goes on the last one to this."""
    if parts and parts[-1][1] + 1 == first and parts[-1][2] == place:
        parts[-1] = (parts[-1][0], last, place)
    else:
        parts.append((first, last, place))


def parted(row, spots):
    """A row as triples (first, last, place), as long as can be, place None for what is at no spot."""
    parts = []
    for first, last in row:
        piece = first
        at = first_behind(spots, first)
        while piece <= last:
            if at == len(spots) or spots[at][0] > last:
                lengthen(parts, piece, last, None)
                break
            low, high, place = spots[at]
            if piece < low:
                lengthen(parts, piece, low - 1, None)
                piece = low
            end = min(high, last)
            lengthen(parts, piece, end, place)
            piece = end + 1
            at += 1
    return parts


def living_row(parts):
    """The row of those parts that lie somewhere."""
    return row_of([(first, last) for first, last, place in parts if place is not None])


def sizes_by_place(parts):
    """The dict from places, None too, to how many pieces of the parts are there."""
    sizes = {}
    for first, last, place in parts:
        sizes[place] = sizes.get(place, 0) + last - first + 1
    return sizes
