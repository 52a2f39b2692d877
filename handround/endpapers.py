"""Papers of ends, and of holdings that are none."""

from handround.fairness import fair_steps, fair_trades
from handround.papers import paper_of


def end_paper(accepts, likes, begin, goal, *, sizes=(2,)):
    fair = list(fair_trades(accepts, likes, goal, sizes=sizes))
    if fair:
        return ("open", fair[0])
    return paper_of(fair_steps(accepts, likes, begin, goal, sizes), begin, goal)
