"""Closings: which houses may close, how soon, and how few can stay."""

from oldaddress.checks import is_list
from oldaddress.entries import exact_promise
from oldaddress.policies import days_to_try
from oldaddress.refusals import BadHouses, NotARow
from oldaddress.streets import Street, door_tables


def check_houses(street, houses):
    """BadHouses for the first thing of a list that is no open house or stood before."""
    if not is_list(houses):
        raise BadHouses(0)
    seen = []
    for index, thing in enumerate(houses):
        if not isinstance(thing, str) or thing in seen or not is_open(street, thing):
            raise BadHouses(index)
        seen.append(thing)


def is_open(street, house):
    """Whether a string is a house that is open now; of a closed one the door is another one."""
    return house in street.houses() and street.door(house) == house


def closed(street, houses):
    """The street with some houses closed now."""
    check_houses(street, houses)
    return closed_in(street, street.history(), houses)


def closed_in(street, history, houses):
    """The street as it is with another history, some open houses closed now."""
    turns = [*street.turns(), *[("close", history.now(), house) for house in houses]]
    return Street(history, street.owners(), street.heirs(), turns)


def may_close(street, houses, promise):
    """Whether there are door_tables with some houses closed now."""
    return door_tables(closed(street, houses), promise) is not None


def closes_in(street, houses, promise):
    """The least number of days behind which some houses may close, None if there is none."""
    check_houses(street, houses)
    told = exact_promise(promise)
    history = street.history()
    for days in days_to_try(history, told[2]):
        later = history if days == 0 else history.then(("wait", days))
        if door_tables(closed_in(street, later, houses), told) is not None:
            return days
    return None


def houses_in_row(street):
    """The houses in the order in which heirs follow, NotARow if they do not stand in a row."""
    heirs = street.heirs()
    inherited = list(heirs.values())
    row = [house for house in heirs if house not in inherited]
    if len(row) != 1 or not all([is_open(street, house) for house in heirs]):
        raise NotARow()
    while heirs[row[-1]] is not None and len(row) <= len(heirs):
        row.append(heirs[row[-1]])
    if len(row) != len(heirs):
        raise NotARow()
    return row


def ends_of_runs(street, row, promise):
    """The indexes in a row at which houses stay: of each run as many may close as can."""
    ends = []
    begin = 0
    for index in range(1, len(row)):
        if not may_close(street, row[begin:index], promise):
            ends.append(index - 1)
            begin = index
    return [*ends, len(row) - 1]


def ends_told(street, promise):
    """A row of houses and the indexes at which they stay, None for these without door_tables."""
    row = houses_in_row(street)
    told = exact_promise(promise)
    if door_tables(street, told) is None:
        return row, None
    return row, ends_of_runs(street, row, told)


def fewest_doors(street, promise):
    """As few houses of a row as can be, such that all others may close together."""
    row, ends = ends_told(street, promise)
    return None if ends is None else [row[end] for end in ends]


def bad_runs(street, promise):
    """As many bad runs of a row as can be, each beginning where the one ahead ends, or behind it."""
    row, ends = ends_told(street, promise)
    if ends is None:
        return None
    begins = [0, *[end + 1 for end in ends[:-1]]]
    return [(row[begin], row[end + 1]) for begin, end in zip(begins, ends[:-1])]
