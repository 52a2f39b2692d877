"""Papers of direct rows."""

from handround.directs import direct_steps
from handround.papers import paper_of


def direct_paper(accepts, begin, goal, *, sizes=(2,)):
    return paper_of(direct_steps(accepts, begin, goal, sizes), begin, goal)
