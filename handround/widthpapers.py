"""Papers of widths."""

from handround.reaching import least_row, reachable
from handround.widths import sizes_to, width


def width_paper(accepts, begin, goal):
    number = width(accepts, begin, goal)
    rings = least_row(accepts, begin, goal, sizes=sizes_to(number))
    if number == 1:
        return (number, rings, ())
    return (number, rings, reachable(accepts, begin, sizes=sizes_to(number - 1)))
