"""Holders who are alike for ever, and deeds by which others come to unlike places."""

from oldaddress.policies import check_life, exact_holder, parts_of, parts_within
from oldaddress.rows import part_of, size_of
from oldaddress.spots import living_row, parted


def living_now(history, holder):
    """The row of what a holder means and what lives now."""
    return living_row(parts_of(history, holder, history.now()))


def are_alike(history, one, other):
    """Whether the living rows of two holders are equal."""
    first = exact_holder(history, one)
    second = exact_holder(history, other)
    return living_now(history, first) == living_now(history, second)


def pieces_alone(row, other):
    """The pieces of a row that are not in another one, the first of each stretch of them."""
    spots = sorted([(first, last, "there") for first, last in other])
    return [first for first, last, place in parted(row, spots) if place is None]


def pieces_crossing(row, other):
    """Two pieces of which each stands ahead of the other one in one of two unlike rows of the same pieces."""
    at = 0
    for (first, last), (begin, end) in zip(row, other):
        if (first, last) != (begin, end):
            if first == begin:
                at += min(last, end) - first + 1
            break
        at += last - first + 1
    return [part_of(line, at, at + 1)[0][0] for line in (row, other)]


def drops_but(history, pieces):
    """The drops behind which of all that lives just these pieces do."""
    deeds = []
    spots = [history.index_of(piece) for piece in pieces]
    for address, row in history.scene(history.now()).lying.items():
        staying = sorted([index for place, index in spots if place == address])
        edges = [-1, *staying, size_of(row)]
        gaps = [(low + 1, high - low - 1) for low, high in zip(edges, edges[1:]) if high - low > 1]
        # From the end of the row on, so that no drop changes the indexes of another one.
        deeds.extend([("drop", address, index, many) for index, many in reversed(gaps)])
    return deeds


def deeds_apart(history, one, other):
    """Deeds behind which two holders are due to unlike places by "first", None if they are alike."""
    first = living_now(history, exact_holder(history, one))
    second = living_now(history, exact_holder(history, other))
    if first == second:
        return None
    alone = [*pieces_alone(first, second), *pieces_alone(second, first)]
    if alone:
        return drops_but(history, alone[:1])
    pieces = pieces_crossing(first, second)
    deeds = drops_but(history, pieces)
    places = [history.where(piece) for piece in pieces]
    if places[0] == places[1]:
        free = [address for address in history.land().addresses() if address != places[0]]
        deeds.append(("cut", places[0], 1, free[0]))
    return deeds


def alike_lots(history, life, moment=None):
    """The lists of the holders within life with equal living rows at a moment."""
    check_life(life)
    lots = {}
    for holder, parts in parts_within(history, life, history.moment_told(moment)):
        lots.setdefault(living_row(parts), []).append(holder)
    return list(lots.values())
