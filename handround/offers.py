"""Offers: what somebody might accept, too."""

from handround.errors import InvalidPaper
from handround.groups import minimal_parts
from handround.holdings import items_of, people_of
from handround.orders import ascending
from handround.papers import is_tuple_of_pairs
from handround.reaching import distance


def lets_offers(accepts, thing):
    if not is_tuple_of_pairs(thing):
        raise InvalidPaper("shape", -1)
    for at, pair in enumerate(thing):
        if at > 0 and pair <= thing[at - 1]:
            raise InvalidPaper("rise", at)
        if not is_offer(accepts, pair):
            raise InvalidPaper("offer", at)
    return len(thing)


def is_offer(accepts, pair):
    person, item = pair
    return person in people_of(accepts) and item in items_of(accepts) and pair not in accepts


def offers_reaching(accepts, begin, goal, offers, *, most=None, sizes=(2,)):
    def are_enough(some):
        many = distance(ascending([*accepts, *some]), begin, goal, sizes=sizes)
        return many is not None and (most is None or many <= most)

    # If all of them do not suffice, no part does: there is no need to try each one.
    return minimal_parts(offers, are_enough) if are_enough(offers) else ()
