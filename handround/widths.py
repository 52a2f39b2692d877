"""How many have to trade at once."""

from handround.reaching import distance


def width(accepts, begin, goal):
    most = 1
    # It ends: trades of all sizes always lead to the goal.
    while distance(accepts, begin, goal, sizes=tuple(range(2, most + 1))) is None:
        most += 1
    return most
