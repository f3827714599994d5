"""Lands: addresses, and how many pieces may live there at one time."""

from oldaddress.checks import is_from_one, is_list, is_name
from oldaddress.deedforms import told_deed
from oldaddress.errors import BadAddresses, BadLand, BadMost

FEWEST = 2


def told_names(addresses):
    """The names that a list of addresses tells, BadAddresses if it is no such list."""
    if not is_list(addresses):
        raise BadAddresses(0)
    names = []
    for index, thing in enumerate(addresses):
        if not is_name(thing) or thing in names:
            raise BadAddresses(index)
        names.append(thing)
    if len(names) < FEWEST:
        raise BadAddresses(len(names))
    return tuple(names)


class Land:
    """Addresses in their order, and how many pieces may live at one time."""

    def __init__(self, addresses, most):
        self._names = told_names(addresses)
        if not is_from_one(most):
            raise BadMost(most)
        self._most = most

    def __eq__(self, other):
        return isinstance(other, Land) and self._names == other._names and self._most == other._most

    def addresses(self):
        return list(self._names)

    def most(self):
        return self._most


def check_land(thing):
    if not isinstance(thing, Land):
        raise BadLand(thing)


def is_deed(land, thing):
    """Whether any object is a deed of the land's addresses, done or not."""
    return told_deed(land.addresses(), thing) is not None
