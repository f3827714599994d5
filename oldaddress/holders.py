"""Holders of addresses: what they mean, what of it lives, and where they are due."""

from oldaddress.checks import is_from_one, is_list
from oldaddress.errors import BadHolder
from oldaddress.policies import (
    check_life,
    check_policy,
    due_by,
    exact_holder,
    holder_told,
    holders_within,
    meant_row,
    moment_since,
    parts_of,
    shares_by,
)
from oldaddress.rows import place_in
from oldaddress.spots import living_row


def holders(history, life, moment=None):
    """The holders that are there at a moment within life."""
    check_life(life)
    return holders_within(history, life, history.moment_told(moment))


def is_holder(history, thing):
    """Whether any object is a holder of the history."""
    return holder_told(history, thing) is not None


def living(history, holder, moment=None):
    """The row of what a holder means and what lives at a moment."""
    told = exact_holder(history, holder)
    return list(living_row(parts_of(history, told, moment_since(history, told[1], moment))))


def shares(history, holder, moment=None):
    """How much of what a holder means lies at which address at a moment."""
    told = exact_holder(history, holder)
    parts = parts_of(history, told, moment_since(history, told[1], moment))
    return shares_by(history.land().addresses(), parts)


def due(history, holder, policy, moment=None):
    """The addresses to which a holder is due by a policy at a moment, () if all is gone."""
    told = exact_holder(history, holder)
    check_policy(policy)
    parts = parts_of(history, told, moment_since(history, told[1], moment))
    return due_by(history.land().addresses(), policy, parts)


def piece_due(history, holder, moment=None):
    """The address where the piece lies for which somebody came alone, () if it is gone."""
    if not is_list(holder) or len(holder) != 3:
        raise BadHolder(holder)
    told = holder_told(history, holder[:2])
    piece = holder[2]
    if told is None or not is_from_one(piece) or place_in(meant_row(history, told), piece) is None:
        raise BadHolder(holder)
    address = history.where(piece, moment_since(history, told[1], moment))
    return () if address is None else (address,)
