"""The checker of accepts: it confirms without searching."""

from handround.holdings import items_of, people_of
from handround.papers import is_tuple_of_pairs, raise_fault


def lets_accepts(thing):
    raise_fault(fault_of_accepts(thing))
    return len(people_of(thing))


def fault_of_accepts(thing):
    """The word and the place of the first fault, or None if it is accepts."""
    if not is_tuple_of_pairs(thing):
        return ("shape", -1)
    if len(thing) == 0:
        return ("empty", -1)
    for at in range(1, len(thing)):
        if thing[at] <= thing[at - 1]:
            return ("rise", at)
    many = len(people_of(thing))
    if many != len(items_of(thing)):
        return ("even", -1)
    if many == 1:
        return ("few", -1)
    return None
