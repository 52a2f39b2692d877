"""What papers have in common: their forms, and the faults for which a checker refuses them."""

from handround.errors import InvalidPaper
from handround.holdings import is_holding
from handround.kinds import are_names, is_pair, is_ring
from handround.orders import ascending
from handround.reaching import row_along
from handround.trades import moved


def paper_of(steps, begin, goal):
    """The paper that the steps, as of steps_by, give: a row, or all that can be reached if the goal cannot."""
    if goal in steps:
        return ("row", row_along(steps, begin, goal))
    return closed_paper(steps)


def closed_paper(holdings):
    return ("closed", ascending(holdings))


def is_row_paper(thing):
    return has_form(thing, "row", 2) and are_name_tuples(thing[1])


def is_closed_paper(thing):
    return has_form(thing, "closed", 2) and are_pair_tuples(thing[1])


def has_form(thing, word, many):
    return isinstance(thing, tuple) and len(thing) == many and thing[0] == word


def are_name_tuples(thing):
    """Whether it is a tuple of tuples of names; these need not be rings."""
    return isinstance(thing, tuple) and all([is_tuple_of_names(part) for part in thing])


def is_tuple_of_names(thing):
    return isinstance(thing, tuple) and are_names(thing)


def are_pair_tuples(thing):
    """Whether it is a tuple of tuples of pairs of names; these need not be holdings."""
    return isinstance(thing, tuple) and all([is_tuple_of_pairs(part) for part in thing])


def is_tuple_of_pairs(thing):
    """Whether it is a tuple of pairs of names; it may be empty and need not be a holding."""
    return isinstance(thing, tuple) and all([is_pair(pair) for pair in thing])


def is_allowed(thing, sizes):
    return is_ring(thing) and len(thing) in sizes


def raise_fault(fault):
    """Raises the error of a fault, a word and a place; None is no fault."""
    if fault is not None:
        word, at = fault
        raise InvalidPaper(word, at)


def fault_of_row(begin, goal, rings, word_against):
    """The fault with the word against a ring in the holding then, if there is one, or "goal"."""
    holding = begin
    for at, ring in enumerate(rings):
        word = word_against(holding, ring)
        if word is not None:
            return (word, at)
        holding = moved(holding, ring)
    return None if holding == goal else ("goal", -1)


def fault_of_closed(accepts, begin, goal, holdings, word, rings_from):
    """The first fault; the one with this word is a ring that leads to none of the holdings."""
    fault = fault_of_holdings(accepts, holdings)
    if fault is not None:
        return fault
    if begin not in holdings:
        return ("begin", -1)
    if goal in holdings:
        return ("goal", -1)
    way = way_out(holdings, rings_from)
    return None if way is None else (word, way)


def fault_of_holdings(accepts, things):
    for at, thing in enumerate(things):
        if not is_holding(accepts, thing):
            return ("holding", at)
        if at > 0 and thing <= things[at - 1]:
            return ("rise", at)
    return None


def way_out(holdings, rings_from):
    """The first place and its first ring that lead to none of the holdings, or None."""
    known = {holding: True for holding in holdings}
    for at, holding in enumerate(holdings):
        for ring in rings_from(holding):
            if moved(holding, ring) not in known:
                return (at, ring)
    return None
