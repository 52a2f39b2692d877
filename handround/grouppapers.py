"""Papers of what a group can reach."""

from handround.groups import check_group, group_steps
from handround.papers import paper_of


def group_paper(accepts, begin, goal, group, *, sizes=(2,)):
    check_group(accepts, group)
    return paper_of(group_steps(accepts, begin, goal, group, sizes), begin, goal)
