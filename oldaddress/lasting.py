"""Marks that last: whatever deeds come, all of one mark are led alike."""

from oldaddress.checks import is_from_one
from oldaddress.errors import BadTurn
from oldaddress.policies import check_life, parts_within
from oldaddress.spots import living_row, parted, spots_of


def living_by_moment(history, address, moment):
    """The dict from when an address was not free to what lives at a moment of what lay there."""
    told = history.moment_told(moment)
    spots = spots_of(history.scene(told).lying)
    found = {}
    for learned in range(told + 1):
        row = history.scene(learned).lying[address]
        if row:
            found[learned] = living_row(parted(row, spots))
    return found


def lasting_marks(history, address, moment=None):
    """The stretches of the moments at which an address was not free with one living row."""
    history.address_told(address)
    stretches = []
    row = None
    for learned, living in living_by_moment(history, address, moment).items():
        if living == row:
            stretches[-1] = (stretches[-1][0], learned)
        else:
            stretches.append((learned, learned))
        row = living
    return stretches


def lasting_lots(history, address, moment=None):
    """The lists of the moments at which an address was not free with one living row."""
    history.address_told(address)
    lots = {}
    for learned, living in living_by_moment(history, address, moment).items():
        lots.setdefault(living, []).append(learned)
    return list(lots.values())


def at_once(history, address):
    """The marks that who does not know what comes tells, from moment to moment, such that they last."""
    history.address_told(address)
    marks = {}
    told = None
    for moment in range(history.now() + 1):
        lying = history.scene(moment).lying
        if not lying[address]:
            continue
        if told is None:
            marks[moment] = 0
        else:
            left = living_row(parted(history.scene(told).lying[address], spots_of(lying)))
            marks[moment] = marks[told] if left == lying[address] else marks[told] + 1
        told = moment
    return marks


def unlike_ones(history, life, moment):
    """The pairs of holders of one address within life whose living rows are unlike at a moment, in order."""
    found = {}
    for holder, parts in parts_within(history, life, moment):
        found.setdefault(holder[0], []).append((holder, living_row(parts)))
    pairs = []
    for group in list(found.values()):
        for index, (one, row) in enumerate(group):
            pairs.extend([(one, other) for other, left in group[index + 1 :] if left != row])
    return pairs


def marks_between(history, life):
    """The triples (moment, one, other) of those whom no mark may share, with how far their marks are apart."""
    marks = {address: at_once(history, address) for address in history.land().addresses()}
    found = []
    for moment in range(history.now() + 1):
        for one, other in unlike_ones(history, life, moment):
            apart = abs(marks[one[0]][one[1]] - marks[other[0]][other[1]])
            found.append(((moment, one, other), apart))
    return found


def least_turn(history, life):
    """The least number of marks that are enough by turns."""
    check_life(life)
    aparts = sorted(set([apart for clash, apart in marks_between(history, life)]))
    k = 1
    while any([apart % k == 0 for apart in aparts]):
        k += 1
    return k


def turn_clash(history, life, k):
    """The first moment with two holders of one mark by turns whom deeds part, None if k marks are enough."""
    check_life(life)
    if not is_from_one(k):
        raise BadTurn(k)
    clashes = [clash for clash, apart in marks_between(history, life) if apart % k == 0]
    return clashes[0] if clashes else None
