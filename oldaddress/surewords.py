"""Words of deeds that never break a promise that is kept, and histories in which others do."""

from oldaddress.checks import is_word_of
from oldaddress.deedforms import FORMS
from oldaddress.entries import exact_promise
from oldaddress.errors import BadWord
from oldaddress.histories import History
from oldaddress.lands import check_land
from oldaddress.stategraphs import StateGraph, StateLooks
from oldaddress.statesteps import small_steps


def breaking_ways(land, promise):
    """The dict from words that are not sure to the first pair (deeds, deed) that shows it."""
    check_land(land)
    told = exact_promise(promise)
    graph = StateGraph(land, told[2], small_steps(land))
    looks = StateLooks(land, told, graph)
    found = {}
    for number in graph.all_numbers():
        if not looks.is_kept(number):
            continue
        for deed, behind in graph.steps(number):
            if deed[0] not in found and not looks.is_kept(behind):
                found[deed[0]] = (graph.way(number), deed)
    return found


def sure_words(land, promise):
    """The words of deeds that are let wherever the promise is kept."""
    found = breaking_ways(land, promise)
    return [word for word in FORMS if word not in found]


def breaking(land, promise, word):
    """The first shortest history that keeps a promise which a deed with a word then breaks, and the deed."""
    found = breaking_ways(land, promise)
    if not is_word_of(list(FORMS), word):
        raise BadWord(word)
    if word not in found:
        return None
    deeds, deed = found[word]
    return (History(land, deeds), deed)
