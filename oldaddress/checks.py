"""Of what kind a thing is, whatever object it may be."""

LETTERS = "abcdefghijklmnopqrstuvwxyz"
FIGURES = "0123456789"
LONGEST_NAME = 8
POLICIES = ("all", "first", "most")


def is_integer(thing):
    return isinstance(thing, int) and not isinstance(thing, bool)


def is_number(thing):
    return is_integer(thing) and thing >= 0


def is_from_one(thing):
    return is_integer(thing) and thing >= 1


def is_list(thing):
    return isinstance(thing, (list, tuple))


def is_name(thing):
    if not isinstance(thing, str) or not 1 <= len(thing) <= LONGEST_NAME:
        return False
    return thing[0] in LETTERS and all([sign in LETTERS or sign in FIGURES for sign in thing])


def is_word_of(words, thing):
    """Whether a thing is one of some strings; it may be a thing that no dict can look up."""
    return isinstance(thing, str) and thing in words


def is_word(thing):
    """Whether a thing is a word that views and markers tell."""
    return is_integer(thing) or isinstance(thing, str)


def is_life(thing):
    return thing is None or is_number(thing)


def is_policy(thing):
    return is_word_of(POLICIES, thing)


def is_width(thing):
    return thing is None or is_from_one(thing)


def first_wrong(things, is_right):
    """The index of the first thing that is not right; 0 for no list, None if all are right."""
    if not is_list(things):
        return 0
    for index, thing in enumerate(things):
        if not is_right(thing):
            return index
    return None


def unlike_addresses(names, thing):
    """The tuple of unlike names of these that a thing is a list of, None if it is none."""
    if not is_list(thing) or not all([is_word_of(names, part) for part in thing]):
        return None
    if len(set(thing)) < len(thing):
        return None
    return tuple(thing)
