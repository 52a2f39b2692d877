"""Papers of ends, and of holdings that are none."""

from handround.fairness import fair_steps, fair_trades
from handround.papers import closed_paper
from handround.reaching import row_along


def end_paper(accepts, likes, begin, goal, *, sizes=(2,)):
    fair = list(fair_trades(accepts, likes, goal, sizes=sizes))
    if fair:
        return ("open", fair[0])
    steps = fair_steps(accepts, likes, begin, goal, sizes)
    if goal in steps:
        return ("row", row_along(steps, begin, goal))
    return closed_paper(steps)
