"""People, items and holdings."""

from handround.errors import UnknownPerson
from handround.kinds import all_differ, is_pairs
from handround.orders import ascending


def people_of(accepts):
    return ascending([person for person, _ in accepts])


def items_of(accepts):
    return ascending([item for _, item in accepts])


def accepted_by(accepts, person):
    # A person of accepts accepts something, so no item means no such person.
    items = tuple([item for other, item in accepts if other == person])
    if not items:
        raise UnknownPerson(person)
    return items


def is_holding(accepts, thing):
    if not is_pairs(thing) or tuple([person for person, _ in thing]) != people_of(accepts):
        return False
    return all_differ([item for _, item in thing]) and all([pair in accepts for pair in thing])


def holdings_of(accepts):
    people = people_of(accepts)
    begun = ()
    yield from holdings_after(accepts, people, begun)


def holdings_after(accepts, people, begun):
    """A generator of the holdings that begin with these pairs, ascending."""
    if len(begun) == len(people):
        yield begun
        return
    person = people[len(begun)]
    for item in accepted_by(accepts, person):
        if holder_of(begun, item) is None:
            longer = (*begun, (person, item))
            yield from holdings_after(accepts, people, longer)


def item_of(holding, person):
    for other, item in holding:
        if other == person:
            return item
    return None


def holder_of(holding, item):
    for person, other in holding:
        if other == item:
            return person
    return None
