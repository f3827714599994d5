"""What may be done without breaking a promise, and how long to wait for it."""

from oldaddress.entries import exact_promise
from oldaddress.histories import deeds_now
from oldaddress.policies import holders_within
from oldaddress.promises import clash, keeps


def is_let(history, promise, deed):
    """Whether a promise is kept behind a deed."""
    told = exact_promise(promise)
    return keeps(history.then(deed), told)


def bar(history, promise, deed):
    """The clash behind a deed, None if the deed is let."""
    told = exact_promise(promise)
    return clash(history.then(deed), told)


def let_deeds(history, promise, numbers):
    """The deeds that can be done now and are let, their n and k among the numbers."""
    told = exact_promise(promise)
    return [deed for deed in deeds_now(history, numbers) if keeps(history.then(deed), told)]


def waited(history, days):
    """The history behind so many days of waiting, none for 0."""
    return history if days == 0 else history.then(("wait", days))


def days_to_look_at(history, life, deed):
    """The ascending numbers of days, a wait now, behind which a deed can be let that is not with fewer."""
    # More days change a promise as somebody falls out of life, which a deed that is a wait brings nearer.
    days = {0: True}
    if life is not None:
        ahead = deed[1] if deed[0] == "wait" else 0
        for holder in holders_within(history, life, history.now()):
            days[max(0, life + 1 - history.age(holder[1]) - ahead)] = True
    return sorted(list(days))


def waits_for(history, promise, deed):
    """The least number of days behind which a deed is let, None if there is none."""
    told = exact_promise(promise)
    done = history.then(deed).deeds()[-1]
    for days in days_to_look_at(history, told[2], done):
        if keeps(waited(history, days).then(done), told):
            return days
    return None


def staying(history, promise, deed):
    """The bar of a deed that no waiting lifts, None if some does."""
    if waits_for(history, promise, deed) is not None:
        return None
    life = promise[2]
    return bar(history if life is None else waited(history, life + 1), promise, deed)


def free_again(history, promise):
    """How many days to wait until something can be made at each free address, None if no number is enough."""
    told = exact_promise(promise)
    free = [address for address, row in history.rows().items() if not row]
    if history.many() == history.land().most():
        return {}
    return {address: waits_for(history, told, ("make", address, 1)) for address in free}
