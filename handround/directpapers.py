"""Papers of direct rows."""

from handround.directs import direct_steps
from handround.papers import closed_paper
from handround.reaching import row_along


def direct_paper(accepts, begin, goal, *, sizes=(2,)):
    steps = direct_steps(accepts, begin, goal, sizes)
    if goal in steps:
        return ("row", row_along(steps, begin, goal))
    return closed_paper(steps)
