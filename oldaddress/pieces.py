"""Pieces: the tracks along which they went, and which of them go together."""

from oldaddress.checks import is_from_one
from oldaddress.errors import BadPiece, NotMade
from oldaddress.rows import row_of


def check_piece(piece):
    if not is_from_one(piece):
        raise BadPiece(piece)


def track(history, piece):
    """The triples (first, last, address) of the moments through which a piece lay at an address."""
    check_piece(piece)
    steps = []
    for moment in range(history.now() + 1):
        address = history.where(piece, moment)
        if address is None:
            continue
        if steps and steps[-1][2] == address:
            steps[-1] = (steps[-1][0], moment, address)
        else:
            steps.append((moment, moment, address))
    return steps


def begins(history):
    """The ascending pieces at which a family can begin, and the one behind all."""
    found = {1: True}
    for moment in range(history.now() + 1):
        scene = history.scene(moment)
        found[scene.born + 1] = True
        for row in list(scene.lying.values()):
            for first, last in row:
                found[first] = True
                found[last + 1] = True
    return sorted(list(found))


def families(history):
    """The pairs (stretches, track) of all lots of pieces with one track, by first pieces."""
    stretches = {}
    edges = begins(history)
    for first, behind in zip(edges, edges[1:]):
        way = tuple(track(history, first))
        stretches[way] = [*stretches.get(way, []), (first, behind - 1)]
    return [(list(row_of(parts)), list(way)) for way, parts in stretches.items()]


def check_made(history, one, other):
    """Raises what two pieces are refused for, that they are none ahead of that they were never made."""
    check_piece(one)
    check_piece(other)
    for piece in (one, other):
        if piece > history.made():
            raise NotMade(piece)


def are_twins(history, one, other):
    """Whether two pieces that were made are of one family."""
    check_made(history, one, other)
    return track(history, one) == track(history, other)


def holder_apart(history, one, other):
    """The first pair (address, moment) by which just one of two pieces is meant, None for twins."""
    check_made(history, one, other)
    for moment in range(history.now() + 1):
        places = (history.where(one, moment), history.where(other, moment))
        if places[0] != places[1]:
            for address in history.land().addresses():
                if address in places:
                    return (address, moment)
    return None
