"""The checker of group papers: it confirms without searching."""

from handround.errors import InvalidPaper
from handround.groups import check_group, is_part, own_pairs
from handround.papers import fault_of_closed, fault_of_row, is_allowed, is_closed_paper, is_row_paper, raise_fault
from handround.trades import bar_of, trades_in


def lets_group(accepts, begin, goal, group, thing, *, sizes=(2,)):
    check_group(accepts, group)
    own_accepts = own_pairs(accepts, group)

    def may_go(holding, ring):
        return is_allowed(ring, sizes) and is_part(ring, group) and bar_of(accepts, holding, ring) is None

    def rings_from(holding):
        own_holding = own_pairs(holding, group)
        return list(trades_in(own_accepts, own_holding, sizes=sizes))

    if is_row_paper(thing):
        raise_fault(fault_of_row(begin, goal, thing[1], "ring", may_go))
        return True
    if is_closed_paper(thing):
        raise_fault(fault_of_closed(accepts, begin, goal, thing[1], "trade", rings_from))
        return False
    raise InvalidPaper("shape", -1)
