"""Answers of an address: to which dues its holders come, and who comes to which."""

from oldaddress.checks import unlike_addresses
from oldaddress.errors import BadDue
from oldaddress.policies import check_life, check_policy, dues_within
from oldaddress.rows import stretches_of


def moments_by_due(history, address, policy, life, moment):
    """The dict from the dues of an address's holders to the moments at which these learned it."""
    check_policy(policy)
    check_life(life)
    found = {}
    for holder, told in dues_within(history, policy, life, history.moment_told(moment)):
        if holder[0] == address:
            found.setdefault(told, []).append(holder[1])
    return found


def dues_of(history, address, policy, life, moment=None):
    """The pairs of the unlike dues of an address's holders and of when these learned it."""
    history.address_told(address)
    found = moments_by_due(history, address, policy, life, moment)
    return [(told, stretches_of(moments)) for told, moments in found.items()]


def learned_when(history, address, due, policy, life, moment=None):
    """The stretches of moments at which those learned an address who have this due."""
    history.address_told(address)
    names = history.land().addresses()
    told = unlike_addresses(names, due)
    if told is None or told != tuple([name for name in names if name in told]):
        raise BadDue(due)
    found = moments_by_due(history, address, policy, life, moment)
    return stretches_of(found.get(told, []))
