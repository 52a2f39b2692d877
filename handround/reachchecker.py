"""The checker of reach papers: it confirms without searching."""

from handround.errors import InvalidPaper
from handround.papers import fault_of_closed, fault_of_row, is_allowed, is_closed_paper, is_row_paper, raise_fault
from handround.trades import bar_of, trades_in


def lets_reach(accepts, begin, goal, thing, *, sizes=(2,)):
    if is_row_paper(thing):
        raise_fault(fault_of_reach_row(accepts, begin, goal, thing[1], sizes))
        return True
    if is_closed_paper(thing):
        raise_fault(fault_of_reach_closed(accepts, begin, goal, thing[1], sizes))
        return False
    raise InvalidPaper("shape", -1)


def fault_of_reach_row(accepts, begin, goal, rings, sizes):
    def word_against(holding, ring):
        if not is_allowed(ring, sizes):
            return "ring"
        return None if bar_of(accepts, holding, ring) is None else "possible"

    return fault_of_row(begin, goal, rings, word_against)


def fault_of_reach_closed(accepts, begin, goal, holdings, sizes):
    def rings_from(holding):
        return list(trades_in(accepts, holding, sizes=sizes))

    fault = fault_of_closed(accepts, begin, goal, holdings, "open", rings_from)
    return None if fault is None else in_short(fault)


def in_short(fault):
    """The fault as lets_reach tells it: with fewer words than other checkers, and without the ring."""
    word, at = fault
    if word == "rise":
        return ("holding", at)
    return ("open", at[0]) if word == "open" else fault
