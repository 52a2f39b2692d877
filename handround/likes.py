"""What people like: their accepted items, the best one first."""

from handround.errors import InvalidPaper, UnknownPair
from handround.holdings import accepted_by, people_of
from handround.kinds import all_differ, is_name
from handround.orders import ascending
from handround.papers import is_tuple_of_names


def lets_likes(accepts, thing):
    if not isinstance(thing, tuple) or not all([is_like(part) for part in thing]):
        raise InvalidPaper("shape", -1)
    people = people_of(accepts)
    if tuple([person for person, _ in thing]) != people:
        raise InvalidPaper("people", -1)
    for at, (person, items) in enumerate(thing):
        if not all_differ(items) or ascending(items) != accepted_by(accepts, person):
            raise InvalidPaper("items", at)
    return len(people)


def is_like(thing):
    if not isinstance(thing, tuple) or len(thing) != 2:
        return False
    return is_name(thing[0]) and is_tuple_of_names(thing[1])


def rank_of(likes, person, item):
    for other, items in likes:
        if other == person and item in items:
            return items.index(item)
    raise UnknownPair((person, item))
