"""States: what alone can still come of a history, told by places and ages."""

from oldaddress.deedforms import told_deed
from oldaddress.entries import exact_promise
from oldaddress.errors import BadState, CannotBeDone
from oldaddress.lands import check_land
from oldaddress.placing import indexed_spots, places_at, sizes_in
from oldaddress.policies import check_life, exact_holder, known_within, meant_row, moment_since
from oldaddress.stateforms import state_told
from oldaddress.statesteps import StateSteps, StateTables


def places(history, holder, moment=None):
    """The places of what a holder means and what lives at a moment."""
    told = exact_holder(history, holder)
    scene = history.scene(moment_since(history, told[1], moment))
    return list(places_at(indexed_spots(scene.lying), meant_row(history, told)))


def state(history, life):
    """The state of a history now: how many pieces lie where, and what rows are known within life."""
    check_life(life)
    lying = history.scene(history.now()).lying
    spots = indexed_spots(lying)
    return (sizes_in(lying), known_within(history, life, lambda row: places_at(spots, row)))


def check_land_and_life(land, life):
    check_land(land)
    check_life(life)


def exact_state(land, life, thing):
    told = state_told(land, life, thing)
    if told is None:
        raise BadState(thing)
    return told


def is_state(land, life, thing):
    """Whether any object has the shape of a state."""
    check_land_and_life(land, life)
    return state_told(land, life, thing) is not None


def next_state(land, life, state, deed):
    """The state behind a deed that can be done in another one."""
    check_land_and_life(land, life)
    told = exact_state(land, life, state)
    steps = StateSteps(land, life, [])
    exact = told_deed(steps.names, deed)
    if exact is None or not steps.can(told[0], exact):
        raise CannotBeDone(deed)
    return steps.behind(told, exact)


def table_by(land, promise, state):
    """The table of a promise, told from a state alone, None if the promise does not hold."""
    check_land(land)
    exact = exact_promise(promise)
    told = exact_state(land, exact[2], state)
    return StateTables(land.addresses(), exact).table(told)
