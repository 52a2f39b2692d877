"""Ends: where fair trades lead to when no more are allowed."""

from handround.errors import UnknownPerson
from handround.fairness import fair_steps, is_settled
from handround.holdings import holdings_of, item_of, people_of
from handround.likes import rank_of
from handround.orders import ascending, least
from handround.trades import trades_in


def ends_of(accepts, likes, holding, *, sizes=(2,)):
    steps = fair_steps(accepts, likes, holding, None, sizes)
    return ascending([end for end in steps if is_settled(accepts, likes, end, sizes=sizes)])


def best_end_for(accepts, likes, holding, person, *, sizes=(2,)):
    if person not in people_of(accepts):
        raise UnknownPerson(person)
    ends = ends_of(accepts, likes, holding, sizes=sizes)
    return least([(rank_of(likes, person, item_of(end, person)), end) for end in ends])


def longest_ring(accepts):
    for size in range(len(people_of(accepts)), 1, -1):
        if has_trade(accepts, (size,)):
            return size
    return 0


def has_trade(accepts, sizes):
    """Whether a trade of these sizes is possible in some holding."""
    for holding in holdings_of(accepts):
        for _ in trades_in(accepts, holding, sizes=sizes):
            return True
    return False
