"""The checker of effort papers: it confirms without searching."""

from handround.errors import InvalidPaper
from handround.kinds import is_number
from handround.papers import (
    are_name_tuples, fault_of_closed, fault_of_holdings, fault_of_row, has_form, is_allowed, is_closed_paper,
    is_tuple_of_pairs, raise_fault,
)
from handround.trades import bar_of, effort_of, moved, trades_in


def lets_effort(accepts, begin, goal, thing, *, sizes=(2,)):
    def word_against(holding, ring):
        may_go = is_allowed(ring, sizes) and bar_of(accepts, holding, ring) is None
        return None if may_go else "trade"

    def rings_from(holding):
        return list(trades_in(accepts, holding, sizes=sizes))

    if is_effort_paper(thing):
        rings, marks = thing[1], thing[2]
        raise_fault(fault_of_row(begin, goal, rings, word_against))
        raise_fault(fault_of_holdings(accepts, [mark[0] for mark in marks]))
        raise_fault(fault_of_marks(begin, goal, effort_of(rings), marks, rings_from))
        return effort_of(rings)
    if is_closed_paper(thing):
        raise_fault(fault_of_closed(accepts, begin, goal, thing[1], "leaves", rings_from))
        return None
    raise InvalidPaper("shape", -1)


def is_effort_paper(thing):
    if not has_form(thing, "effort", 3) or not are_name_tuples(thing[1]) or not isinstance(thing[2], tuple):
        return False
    return all([is_mark(part) for part in thing[2]])


def is_mark(thing):
    if not isinstance(thing, tuple) or len(thing) != 2:
        return False
    return is_tuple_of_pairs(thing[0]) and is_number(thing[1])


def fault_of_marks(begin, goal, effort, marks, rings_from):
    """The first fault of the marks of different holdings, where a row of this effort leads to the goal."""
    numbers = {holding: number for holding, number in marks}
    if numbers.get(begin) != 0:
        return ("begin", -1)
    for at, (holding, number) in enumerate(marks):
        for ring in rings_from(holding):
            if not is_within(numbers, moved(holding, ring), number + len(ring) - 1):
                return ("mark", (at, ring))
    # The row leads from mark to mark, so the goal has one.
    return None if numbers[goal] == effort else ("least", -1)


def is_within(numbers, holding, most):
    return holding in numbers and numbers[holding] <= most
