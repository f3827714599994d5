"""The shape of states, of whatever object."""

from oldaddress.checks import is_list, is_number, is_word_of
from oldaddress.placing import whole_places
from oldaddress.policies import no_age


def counts_told(names, most, thing):
    """The numbers of pieces that a thing tells, one for each name, at most so many together, else None."""
    if not is_list(thing) or len(thing) != len(names) or not all([is_number(part) for part in thing]):
        return None
    return tuple(thing) if sum(thing) <= most else None


def is_place(sizes, thing):
    """Whether a thing tells a stretch of indexes that are there at an address."""
    if not is_list(thing) or len(thing) != 3 or not is_word_of(sizes, thing[0]):
        return False
    if not is_number(thing[1]) or not is_number(thing[2]):
        return False
    return thing[1] <= thing[2] < sizes[thing[0]]


def places_told(sizes, thing):
    """The row of places that a thing tells, None if it tells none."""
    if not is_list(thing) or not all([is_place(sizes, part) for part in thing]):
        return None
    places = [tuple(part) for part in thing]
    for ahead, behind in zip(places, places[1:]):
        if ahead[0] == behind[0] and ahead[2] + 1 == behind[1]:
            return None
    ascending = sorted(places)
    for ahead, behind in zip(ascending, ascending[1:]):
        if ahead[0] == behind[0] and ahead[2] >= behind[1]:
            return None
    return tuple(places)


def is_age(life, thing):
    if life is None:
        return thing is None
    return is_number(thing) and thing <= life


def pairs_told(sizes, life, address, thing):
    """The pairs (places, age) of an address that a thing tells, None if it tells none."""
    if not is_list(thing) or not all([is_list(pair) and len(pair) == 2 for pair in thing]):
        return None
    rows = [places_told(sizes, pair[0]) for pair in thing]
    if None in rows or not all([is_age(life, pair[1]) for pair in thing]):
        return None
    if not all([ahead < behind for ahead, behind in zip(rows, rows[1:])]):
        return None
    pairs = tuple([(row, pair[1]) for row, pair in zip(rows, thing)])
    own = whole_places(address, sizes[address])
    return None if own and (own, no_age(life)) not in pairs else pairs


def state_told(land, life, thing):
    """The state that a thing tells by its shape, tuples throughout, None if it tells none."""
    names = land.addresses()
    if not is_list(thing) or len(thing) != 2:
        return None
    counts = counts_told(names, land.most(), thing[0])
    if counts is None or not is_list(thing[1]) or len(thing[1]) != len(names):
        return None
    sizes = dict(zip(names, counts))
    known = [pairs_told(sizes, life, name, part) for name, part in zip(names, thing[1])]
    return None if None in known else (counts, tuple(known))
