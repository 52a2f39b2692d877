"""Papers of what can be reached."""

from handround.papers import paper_of
from handround.reaching import steps_to


def reach_paper(accepts, begin, goal, *, sizes=(2,)):
    return paper_of(steps_to(accepts, begin, goal, sizes), begin, goal)
