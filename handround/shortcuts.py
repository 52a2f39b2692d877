"""Shortcuts: what somebody in a ring accepts beyond what they get by it, and the two rings that it makes."""

from handround.errors import InvalidTrade
from handround.holdings import holder_of
from handround.orders import least
from handround.trades import bar_of, pairs_got, turned_to


def shortcuts_of(accepts, holding, ring):
    check_possible(accepts, holding, ring)
    got = pairs_got(dict(holding), ring)
    return tuple([pair for pair in accepts if pair not in got and is_across(holding, ring, pair)])


def split(accepts, holding, ring, shortcut):
    if shortcut not in shortcuts_of(accepts, holding, ring):
        raise InvalidTrade(ring, "shortcut")
    person, item = shortcut
    turned = turned_to(ring, person)
    after = turned.index(holder_of(holding, item)) + 1
    first = turned[:after]
    rest = (person, *turned[after:])
    return (turned_to(first, least(first)), turned_to(rest, least(rest)))


def check_possible(accepts, holding, ring):
    reason = bar_of(accepts, holding, ring)
    if reason is not None:
        raise InvalidTrade(ring, reason)


def is_across(holding, ring, pair):
    """Whether the person is in the ring and another one of it holds the item."""
    person, item = pair
    holder = holder_of(holding, item)
    return person in ring and holder in ring and holder != person
