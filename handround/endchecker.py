"""The checker of end papers: it confirms without searching."""

from handround.errors import InvalidPaper
from handround.fairness import fair_trades, is_fair
from handround.papers import (
    fault_of_closed, fault_of_row, has_form, is_allowed, is_closed_paper, is_row_paper, is_tuple_of_names, raise_fault,
)


def lets_end(accepts, likes, begin, goal, thing, *, sizes=(2,)):
    def may_go(holding, ring):
        return is_allowed(ring, sizes) and is_fair(accepts, likes, holding, ring)

    def word_against(holding, ring):
        return None if may_go(holding, ring) else "ring"

    def rings_from(holding):
        return list(fair_trades(accepts, likes, holding, sizes=sizes))

    if is_row_paper(thing):
        raise_fault(fault_of_row(begin, goal, thing[1], word_against))
        raise_fault(fault_of_end(rings_from(goal)))
        return True
    if is_open_paper(thing):
        if not may_go(goal, thing[1]):
            raise InvalidPaper("fair", -1)
        return False
    if is_closed_paper(thing):
        raise_fault(fault_of_closed(accepts, begin, goal, thing[1], "trade", rings_from))
        return False
    raise InvalidPaper("shape", -1)


def is_open_paper(thing):
    return has_form(thing, "open", 2) and is_tuple_of_names(thing[1])


def fault_of_end(rings):
    """The fault of a goal in which these rings are fair."""
    return ("settled", rings[0]) if rings else None
