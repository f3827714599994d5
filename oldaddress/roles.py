"""Roles: who means whatever lies at an address when they come, beside those who mean things."""

from oldaddress.checks import first_wrong, is_list, is_number, is_word_of
from oldaddress.policies import check_life, check_policy, due_by, dues_within, parts_of
from oldaddress.refusals import BadSeen


def due_of_role(history, address, moment):
    return (address,) if history.scene(moment).lying[address] else ()


def role_due(history, address, moment=None):
    """To what whoever means a role is due: the address, () if it is free."""
    history.address_told(address)
    return due_of_role(history, address, history.moment_told(moment))


def strangers(history, policy, life, moment):
    """The holders within life at a moment who are due to something else than a role is."""
    comers = dues_within(history, policy, life, moment)
    return [holder for holder, due in comers if due != due_of_role(history, holder[0], moment)]


def strangers_told(history, policy, life, moment):
    """The moment that is meant, and the holders within life who are due then to something else than a role is."""
    check_policy(policy)
    check_life(life)
    told = history.moment_told(moment)
    return told, strangers(history, policy, life, told)


def both_table(history, policy, life, moment=None):
    """What answers to roles and things alike at all addresses, None if nothing does."""
    told, found = strangers_told(history, policy, life, moment)
    if found:
        return None
    return {address: due_of_role(history, address, told) for address in history.land().addresses()}


def both_clash(history, policy, life, moment=None):
    """The first holder within life who is due to something else than a role is, None if there is none."""
    told, found = strangers_told(history, policy, life, moment)
    return found[0] if found else None


def keeps_both(history, deed, policy, life):
    """Whether one table answers to roles and things alike behind a deed."""
    return both_clash(history.then(deed), policy, life) is None


def is_seen(history, address, thing):
    """Whether any object is a triple of when an address was learned, when one came by it, and what one was told."""
    if not is_list(thing) or len(thing) != 3:
        return False
    learned, moment, told = thing
    if not is_number(learned) or not is_number(moment) or not learned <= moment <= history.now():
        return False
    if not history.scene(learned).lying[address] or not is_list(told):
        return False
    names = history.land().addresses()
    return all([is_word_of(names, name) for name in told])


def misfits(history, address, policy, seen):
    """The indexes of what was seen that does not fit a role, and of what does not fit a thing."""
    history.address_told(address)
    check_policy(policy)
    wrong = first_wrong(seen, lambda thing: is_seen(history, address, thing))
    if wrong is not None:
        raise BadSeen(wrong)
    names = history.land().addresses()
    no_role = []
    no_thing = []
    for index, (learned, moment, told) in enumerate(seen):
        if tuple(told) != due_of_role(history, address, moment):
            no_role.append(index)
        if tuple(told) != due_by(names, policy, parts_of(history, (address, learned), moment)):
            no_thing.append(index)
    return no_role, no_thing


def which(history, address, policy, seen):
    """Whether what was seen fits one who means roles, one who means things, either, or neither."""
    no_role, no_thing = misfits(history, address, policy, seen)
    if no_role:
        return "neither" if no_thing else "thing"
    return "role" if no_thing else "either"


def barred(history, address, policy, seen):
    """The indexes of the first that does not fit a role and of the first that does not fit a thing, None for none."""
    no_role, no_thing = misfits(history, address, policy, seen)
    return (no_role[0] if no_role else None, no_thing[0] if no_thing else None)


def wanting(history, policy, life):
    """The dict from addresses whose holders were due to something else than a role to the first such moments."""
    check_policy(policy)
    check_life(life)
    found = {}
    for moment in range(history.now() + 1):
        for holder in strangers(history, policy, life, moment):
            found.setdefault(holder[0], moment)
    return found


def wanting_two(history, policy, life):
    """The addresses for which one name did not do for roles and things at some moment up to now."""
    found = wanting(history, policy, life)
    return [address for address in history.land().addresses() if address in found]


def first_wanting(history, policy, life):
    """The first moment at which one name did not do for roles and things, None if there is none."""
    return min(list(wanting(history, policy, life).values()), default=None)
