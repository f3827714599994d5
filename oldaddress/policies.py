"""To which addresses somebody is due, by each policy, and who is asked for at a moment."""

from oldaddress.checks import is_life, is_list, is_number, is_policy, is_word_of
from oldaddress.errors import BadHolder, BadLife, BadMoment, BadPolicy
from oldaddress.spots import parted, sizes_by_place, spots_of


def check_life(life):
    if not is_life(life):
        raise BadLife(life)


def check_ending_life(life):
    if not is_number(life):
        raise BadLife(life)


def check_policy(policy):
    if not is_policy(policy):
        raise BadPolicy(policy)


def shares_by(names, parts):
    """The dict, in the order of the names, from where some parts lie to how many pieces do."""
    sizes = sizes_by_place(parts)
    return {name: sizes[name] for name in names if name in sizes}


def due_by(names, policy, parts):
    """The due of who means a row of these parts, () if none of it lives."""
    sizes = shares_by(names, parts)
    if not sizes:
        return ()
    if policy == "all":
        return tuple(list(sizes))
    if policy == "first":
        return tuple([place for first, last, place in parts if place is not None][:1])
    greatest = max(list(sizes.values()))
    return tuple([name for name in sizes if sizes[name] == greatest][:1])


def holder_told(history, thing):
    """The holder of a history that a thing tells, as a tuple, None if it tells none."""
    if not is_list(thing) or len(thing) != 2:
        return None
    address, learned = thing
    if not is_number(learned) or learned > history.now():
        return None
    lying = history.scene(learned).lying
    if not is_word_of(lying, address) or not lying[address]:
        return None
    return (address, learned)


def exact_holder(history, thing):
    holder = holder_told(history, thing)
    if holder is None:
        raise BadHolder(thing)
    return holder


def moment_since(history, learned, moment):
    """The moment that is meant, BadMoment if it is none or ahead of when something was learned."""
    told = history.moment_told(moment)
    if told < learned:
        raise BadMoment(moment)
    return told


def meant_row(history, holder):
    return history.scene(holder[1]).lying[holder[0]]


def parts_of(history, holder, moment):
    """What a holder means, in meant order, parted by where it lies at a moment."""
    return parted(meant_row(history, holder), spots_of(history.scene(moment).lying))


def holders_within(history, life, moment):
    """The holders that are there at a moment within life, by addresses, then by when they learned."""
    ages = [history.age(learned, moment) for learned in range(moment + 1)]
    found = []
    for address in history.land().addresses():
        for learned in range(moment + 1):
            if history.scene(learned).lying[address] and (life is None or ages[learned] <= life):
                found.append((address, learned))
    return found


def parts_within(history, life, moment):
    """The pairs of all holders within life at a moment and of what they mean, parted."""
    spots = spots_of(history.scene(moment).lying)
    found = []
    row = None
    parts = []
    for holder in holders_within(history, life, moment):
        # Rows mostly stay from moment to moment: what they are parted into is found once.
        if meant_row(history, holder) != row:
            row = meant_row(history, holder)
            parts = parted(row, spots)
        found.append((holder, parts))
    return found


def dues_within(history, policy, life, moment):
    """The pairs of all holders within life at a moment and of their dues."""
    names = history.land().addresses()
    return [(holder, due_by(names, policy, parts)) for holder, parts in parts_within(history, life, moment)]


def no_age(life):
    """The age of who learned something now."""
    return None if life is None else 0


def known_within(history, life, told):
    """For each address the ascending pairs (what told tells of a row, least age) of the rows meant within life."""
    now = history.now()
    known = {address: {} for address in history.land().addresses()}
    for holder in holders_within(history, life, now):
        ages = known[holder[0]]
        row = told(meant_row(history, holder))
        age = no_age(life) if life is None else history.age(holder[1])
        if row not in ages or (age is not None and age < ages[row]):
            ages[row] = age
    return tuple([tuple(sorted(list(ages.items()))) for ages in list(known.values())])


def days_to_try(history, life):
    """The ascending numbers of days, a wait now, at which it can change who is within life."""
    # Behind a wait whoever learned ahead of now is so many days older; from 1 on they only fall out of life.
    days = {0: True, 1: True}
    if life is not None:
        for holder in holders_within(history, life, history.now()):
            days[life + 1 - history.age(holder[1])] = True
    return sorted(list(days))
