"""The checker of group papers: it confirms without searching."""

from handround.errors import InvalidPaper
from handround.groups import check_group, is_part, rings_of_group
from handround.papers import fault_of_closed, fault_of_row, is_allowed, is_closed_paper, is_row_paper, raise_fault
from handround.trades import bar_of


def lets_group(accepts, begin, goal, group, thing, *, sizes=(2,)):
    check_group(accepts, group)

    def word_against(holding, ring):
        may_go = is_allowed(ring, sizes) and is_part(ring, group) and bar_of(accepts, holding, ring) is None
        return None if may_go else "ring"

    def rings_from(holding):
        return rings_of_group(accepts, holding, group, sizes)

    if is_row_paper(thing):
        raise_fault(fault_of_row(begin, goal, thing[1], word_against))
        return True
    if is_closed_paper(thing):
        raise_fault(fault_of_closed(accepts, begin, goal, thing[1], "trade", rings_from))
        return False
    raise InvalidPaper("shape", -1)
