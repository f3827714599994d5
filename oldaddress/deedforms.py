"""The forms of deeds, and what each of them does."""

from oldaddress.checks import is_from_one, is_list, is_number, is_word_of
from oldaddress.rows import part_of, row_of, size_of, without

# What stands behind the word of a deed: "a" an address, "n" an integer from 1 on, "k" a number.
FORMS = {
    "make": "an",
    "grow": "an",
    "move": "aa",
    "swap": "aa",
    "cut": "ana",
    "split": "anaa",
    "pour": "aa",
    "drop": "akn",
    "end": "a",
    "wait": "n",
}


def is_part(names, kind, part):
    if kind == "a":
        return is_word_of(names, part)
    if kind == "k":
        return is_number(part)
    return is_from_one(part)


def told_deed(names, thing):
    """The deed of these addresses that a thing tells, as a tuple, None if it tells none."""
    if not is_list(thing) or not thing or not isinstance(thing[0], str) or thing[0] not in FORMS:
        return None
    form = FORMS[thing[0]]
    if len(thing) != len(form) + 1:
        return None
    if not all([is_part(names, kind, part) for kind, part in zip(form, thing[1:])]):
        return None
    addresses = [part for kind, part in zip(form, thing[1:]) if kind == "a"]
    if len(set(addresses)) < len(addresses):
        return None
    return tuple(thing)


def deed_can_be_done(sizes, most, deed):
    """Whether a deed can be done where so many pieces lie at each address."""
    word = deed[0]
    if word == "wait":
        return True
    size = sizes[deed[1]]
    if word == "make" or word == "grow":
        return (size == 0) == (word == "make") and sum(list(sizes.values())) + deed[2] <= most
    if word == "drop":
        return size >= deed[2] + deed[3]
    if word == "cut" or word == "split":
        return size > deed[2] and all([sizes[address] == 0 for address in deed[3:]])
    if word == "move":
        return size > 0 and sizes[deed[2]] == 0
    return all([sizes[address] > 0 for address in deed[1:]])


def rows_behind(rows, born, deed):
    """The dict from addresses to rows behind a deed that can be done, so many pieces being made so far."""
    lying = dict(rows)
    word = deed[0]
    if word == "wait":
        return lying
    at = deed[1]
    row = rows[at]
    if word == "make" or word == "grow":
        lying[at] = row_of([*row, (born + 1, born + deed[2])])
    elif word == "drop":
        lying[at] = without(row, deed[2], deed[3])
    elif word == "end":
        lying[at] = ()
    elif word == "cut":
        lying[at] = part_of(row, 0, deed[2])
        lying[deed[3]] = part_of(row, deed[2], size_of(row))
    elif word == "split":
        lying[at] = ()
        lying[deed[3]] = part_of(row, 0, deed[2])
        lying[deed[4]] = part_of(row, deed[2], size_of(row))
    elif word == "pour":
        lying[at] = ()
        lying[deed[2]] = row_of([*rows[deed[2]], *row])
    else:
        lying[at] = rows[deed[2]]
        lying[deed[2]] = row
    return lying


def address_choices(form, names):
    """All ways to fill the addresses of a form with unlike names, place by place."""
    choices = [()]
    for kind in form:
        if kind == "a":
            choices = [(*ahead, name) for ahead in choices for name in names if name not in ahead]
    return choices


def number_choices(form, numbers):
    """All ways to fill the numbers of a form with some of these, place by place."""
    choices = [()]
    for kind in form:
        if kind != "a":
            choices = [(*ahead, k) for ahead in choices for k in numbers if is_part((), kind, k)]
    return choices


def filled(word, addresses, numbers):
    """The deed with this word, these addresses and these numbers, each in the order of its form."""
    deed = [word]
    address_at = 0
    for kind in FORMS[word]:
        if kind == "a":
            deed.append(addresses[address_at])
            address_at += 1
        else:
            deed.append(numbers[len(deed) - 1 - address_at])
    return tuple(deed)


def deeds_of(names, numbers):
    """All deeds of these addresses but waits, whose numbers are among these, in the order of forms."""
    found = []
    for word, form in FORMS.items():
        if word != "wait":
            fillings = number_choices(form, numbers)
            for addresses in address_choices(form, names):
                found.extend([filled(word, addresses, filling) for filling in fillings])
    return found
