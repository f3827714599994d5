"""Deeds one behind another, as early as they are let, and what else helps to do them."""

from oldaddress.checks import first_wrong
from oldaddress.deedforms import told_deed
from oldaddress.doing import waited, waits_for
from oldaddress.entries import exact_promise
from oldaddress.errors import BadDeeds
from oldaddress.lives import greatest_life, least_width
from oldaddress.policies import check_life, check_policy


def is_deed_to_do(names, thing):
    """Whether any object is a deed of these addresses, but no wait."""
    deed = told_deed(names, thing)
    return deed is not None and deed[0] != "wait"


def days_ahead(history, promise, deeds):
    """The days to wait ahead of each of some deeds up to the first that is never let."""
    told = exact_promise(promise)
    names = history.land().addresses()
    wrong = first_wrong(deeds, lambda thing: is_deed_to_do(names, thing))
    if wrong is not None:
        raise BadDeeds(wrong)
    found = []
    later = history
    for deed in deeds:
        days = waits_for(later, told, deed) if later.can(deed) else None
        if days is None:
            return found
        later = waited(later, days).then(deed)
        found.append(days)
    return found


def soonest(history, promise, deeds):
    """The days to wait ahead of each deed, each done as early as it is let, None if one is never."""
    days = days_ahead(history, promise, deeds)
    return days if len(days) == len(deeds) else None


def stuck_at(history, promise, deeds):
    """The index of the first deed that is never let, None if there is none."""
    days = days_ahead(history, promise, deeds)
    return None if len(days) == len(deeds) else len(days)


def remedies(history, policy, life, deed):
    """How long to wait, how wide to answer or how short to promise, so that a deed is let."""
    check_policy(policy)
    check_life(life)
    later = history.then(deed)
    days = waits_for(history, (policy, None, life), deed)
    return (days, least_width(later, policy, life), greatest_life(later, policy, None))
