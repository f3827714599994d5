"""Views: tables of houses that see a word beside the address."""

from oldaddress.checks import is_word
from oldaddress.entries import clash_of_groups, exact_promise, table_of_groups
from oldaddress.errors import BadView, NoWord
from oldaddress.functions import is_function
from oldaddress.policies import dues_within


def seen_groups(history, promise, view, moment):
    """The dict from pairs (address, word) to the served holders of which a view tells them, with their dues."""
    policy, width, life = exact_promise(promise)
    if not is_function(view):
        raise BadView(view)
    groups = {}
    for holder, due in dues_within(history, policy, life, history.moment_told(moment)):
        word = view(holder[0], holder[1])
        if not is_word(word):
            raise NoWord(word)
        groups.setdefault((holder[0], word), []).append((holder, due))
    return groups


def seen_table(history, promise, view, moment=None):
    """The shortest table from pairs (address, word) that keeps a promise, None if there is none."""
    groups = seen_groups(history, promise, view, moment)
    return table_of_groups(history.land().addresses(), promise[1], groups)


def seen_clash(history, promise, view, moment=None):
    """What shows that there is no seen_table, None if there is one."""
    groups = seen_groups(history, promise, view, moment)
    return clash_of_groups(history.land().addresses(), promise[1], groups)
