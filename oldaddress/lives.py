"""For which lives, with which widths and when promises are kept."""

from oldaddress.checks import is_width
from oldaddress.entries import are_at_odds, addresses_in, by_address, exact_promise, table_of
from oldaddress.errors import BadWidth
from oldaddress.policies import check_life, check_policy, dues_within
from oldaddress.promises import keeps
from oldaddress.rows import stretches_of


def ages_of(history, comers, moment):
    """The ascending unlike ages that some comers have at a moment."""
    return sorted(set([history.age(holder[1], moment) for holder, due in comers]))


def not_older(history, comers, age, moment):
    """Those of some comers whose age is at most this one at a moment."""
    return [comer for comer in comers if history.age(comer[0][1], moment) <= age]


def greatest_life(history, policy, width, moment=None):
    """The greatest life for which a promise is kept, None without end, -1 if not even for 0."""
    check_policy(policy)
    if not is_width(width):
        raise BadWidth(width)
    told = history.moment_told(moment)
    names = history.land().addresses()
    comers = dues_within(history, policy, None, told)
    for age in ages_of(history, comers, told):
        if table_of(names, width, not_older(history, comers, age, told)) is None:
            return age - 1
    return None


def width_for(names, comers):
    """The least width with which there is a table for comers, None if there is none with any."""
    least = 1
    for group in list(by_address(comers).values()):
        dues = [due for holder, due in group]
        if any([are_at_odds(least, dues[0], due) for due in dues]):
            return None
        least = max(least, len(addresses_in(names, dues)))
    return least


def least_width(history, policy, life, moment=None):
    """The least width with which a promise is kept, None if it is with none."""
    check_policy(policy)
    check_life(life)
    comers = dues_within(history, policy, life, history.moment_told(moment))
    return width_for(history.land().addresses(), comers)


def front(history, policy, moment=None):
    """The pairs (life, width) at which more life begins to want more width."""
    check_policy(policy)
    told = history.moment_told(moment)
    names = history.land().addresses()
    comers = dues_within(history, policy, None, told)
    pairs = []
    width = 1
    for age in ages_of(history, comers, told):
        wanted = width_for(names, not_older(history, comers, age, told))
        if wanted != width:
            # Nobody is younger than 0, so what is wanted of those has no pair.
            if age > 0:
                pairs.append((age - 1, width))
            width = wanted
        if width is None:
            return pairs
    return [*pairs, (None, width)]


def kept_moments(history, promise):
    told = exact_promise(promise)
    return [moment for moment in range(history.now() + 1) if keeps(history, told, moment)]


def kept(history, promise):
    """The stretches of the moments at which a promise is kept."""
    return stretches_of(kept_moments(history, promise))


def first_broken(history, promise):
    """The first moment at which a promise is not kept, None if it always is."""
    at = kept_moments(history, promise)
    broken = [moment for moment in range(history.now() + 1) if moment not in at]
    return broken[0] if broken else None
