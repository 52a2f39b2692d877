"""Papers of least efforts."""

from handround.efforts import costs_to
from handround.orders import ascending
from handround.papers import closed_paper
from handround.reaching import row_along


def effort_paper(accepts, begin, goal, *, sizes=(2,)):
    # The marks need all that can be reached, beyond the goal too.
    costs = costs_to(accepts, begin, None, sizes)
    if goal not in costs:
        return closed_paper(costs)
    steps = {holding: costs[holding][1] for holding in costs}
    marks = ascending([(holding, costs[holding][0]) for holding in costs])
    return ("effort", row_along(steps, begin, goal), marks)
