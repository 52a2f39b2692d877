"""The checker of direct papers: it confirms without searching."""

from handround.directs import direct_trades, is_direct_trade
from handround.errors import InvalidPaper
from handround.papers import fault_of_closed, fault_of_row, is_allowed, is_closed_paper, is_row_paper, raise_fault


def lets_direct(accepts, begin, goal, thing, *, sizes=(2,)):
    def word_against(holding, ring):
        may_go = is_allowed(ring, sizes) and is_direct_trade(accepts, holding, goal, ring)
        return None if may_go else "trade"

    def rings_from(holding):
        return list(direct_trades(accepts, holding, goal, sizes=sizes))

    if is_row_paper(thing):
        raise_fault(fault_of_row(begin, goal, thing[1], word_against))
        return True
    if is_closed_paper(thing):
        raise_fault(fault_of_closed(accepts, begin, goal, thing[1], "leaves", rings_from))
        return False
    raise InvalidPaper("shape", -1)
