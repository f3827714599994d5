"""Where what lay at an address lies later, and what lay where earlier."""

from oldaddress.checks import is_from_one
from oldaddress.deedforms import FORMS
from oldaddress.errors import BadMoment, BadTimes
from oldaddress.histories import History
from oldaddress.lands import Land
from oldaddress.rows import stretches_of
from oldaddress.spots import parted, sizes_by_place, spots_of


def two_moments(history, moment, later):
    """A moment and one that is not ahead of it, BadMoment of the first that is none."""
    begin = history.exact_moment(moment)
    end = history.moment_told(later)
    if end < begin:
        raise BadMoment(later)
    return begin, end


def went(history, address, moment, later=None):
    """The row that lay at an address, as triples (first, last, place) of a later moment."""
    history.address_told(address)
    begin, end = two_moments(history, moment, later)
    return parted(history.scene(begin).lying[address], spots_of(history.scene(end).lying))


def flow(history, moment, later=None):
    """How many pieces lay at one address and lie at another later, None for not there."""
    begin, end = two_moments(history, moment, later)
    names = history.land().addresses()
    old = history.scene(begin)
    spots = spots_of(history.scene(end).lying)
    found = {}
    for one in names:
        sizes = sizes_by_place(parted(old.lying[one], spots))
        for other in [*names, None]:
            if other in sizes:
                found[one, other] = sizes[other]
    born = [(max(first, old.born + 1), last, place) for first, last, place in spots if last > old.born]
    sizes = sizes_by_place(born)
    for other in names:
        if other in sizes:
            found[None, other] = sizes[other]
    return found


def known_by(history, address, moment, is_asked):
    """By addresses, the stretches of moments of which the set of places lets is_asked be so."""
    history.address_told(address)
    told = history.moment_told(moment)
    spots = spots_of(history.scene(told).lying)
    found = {}
    for name in history.land().addresses():
        moments = []
        for earlier in range(told + 1):
            sizes = sizes_by_place(parted(history.scene(earlier).lying[name], spots))
            if is_asked([place for place in sizes if place is not None]):
                moments.append(earlier)
        if moments:
            found[name] = stretches_of(moments)
    return found


def known_as(history, address, moment=None):
    """When something lay at which address, that lies at this address at a moment."""
    return known_by(history, address, moment, lambda places: address in places)


def known_wholly(history, address, moment=None):
    """When all that lay at an address and lives at a moment lies at this address then."""
    return known_by(history, address, moment, lambda places: places == [address])


def times_as_great(deed, pieces, days):
    """A deed with all numbers of pieces, or of days, so many times as great."""
    times = days if deed[0] == "wait" else pieces
    parts = [part if kind == "a" else part * times for kind, part in zip(FORMS[deed[0]], deed[1:])]
    return (deed[0], *parts)


def scaled(history, pieces, days):
    """The history with pieces and days so many times as great."""
    for times in (pieces, days):
        if not is_from_one(times):
            raise BadTimes(times)
    land = history.land()
    greater = Land(land.addresses(), land.most() * pieces)
    return History(greater, [times_as_great(deed, pieces, days) for deed in history.deeds()])
