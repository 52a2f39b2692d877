"""The checker of accepts: it confirms without searching."""

from handround.errors import InvalidPaper
from handround.holdings import items_of, people_of
from handround.kinds import is_pair


def lets_accepts(thing):
    fault = fault_of_accepts(thing)
    if fault is not None:
        word, at = fault
        raise InvalidPaper(word, at)
    return len(people_of(thing))


def fault_of_accepts(thing):
    """The word and the place of the first fault, or None if it is accepts."""
    if not isinstance(thing, tuple) or not all([is_pair(pair) for pair in thing]):
        return ("shape", -1)
    if len(thing) == 0:
        return ("empty", -1)
    for at in range(1, len(thing)):
        if thing[at] <= thing[at - 1]:
            return ("rise", at)
    many = len(people_of(thing))
    if many != len(items_of(thing)):
        return ("even", -1)
    if many == 1:
        return ("few", -1)
    return None
