"""Functions that callers hand in."""

from oldaddress.desks import Desk
from oldaddress.errors import AddressError
from oldaddress.histories import History
from oldaddress.lands import Land
from oldaddress.streets import Street


def is_function(thing):
    """Whether any object is a function: it is one of those kinds that are told by none of these."""
    if thing is None or isinstance(thing, (int, str, bytes, list, tuple, dict)):
        return False
    return not isinstance(thing, (Land, History, Street, Desk, AddressError))
