"""The checker of width papers: it confirms without searching."""

from handround.errors import InvalidPaper
from handround.holdings import people_of
from handround.kinds import is_number
from handround.papers import are_name_tuples, are_pair_tuples, raise_fault
from handround.reachchecker import fault_of_reach_closed, fault_of_reach_row


def lets_width(accepts, begin, goal, thing):
    if not is_width_paper(thing):
        raise InvalidPaper("shape", -1)
    number, rings, holdings = thing
    if number == 0:
        raise InvalidPaper("number", -1)
    # Nothing that is longer is traded or tried.
    longest = max([len(some) for some in [people_of(accepts), *rings]])
    raise_fault(fault_of_reach_row(accepts, begin, goal, rings, sizes_within(number, longest)))
    if number > 1:
        raise_fault(fault_of_reach_closed(accepts, begin, goal, holdings, sizes_within(number - 1, longest)))
    elif holdings != ():
        raise InvalidPaper("extra", -1)
    return number


def is_width_paper(thing):
    if not isinstance(thing, tuple) or len(thing) != 3:
        return False
    return is_number(thing[0]) and are_name_tuples(thing[1]) and are_pair_tuples(thing[2])


def sizes_within(number, longest):
    """The sizes up to both; the number may be too great to count up to."""
    return tuple([size for size in range(2, longest + 1) if size <= number])
