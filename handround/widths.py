"""How many have to trade at once, and what can be reached with how many."""

from handround.holdings import holdings_of, people_of
from handround.reaching import distance, reachable


def width(accepts, begin, goal):
    most = 1
    # It ends: trades of all sizes always lead to the goal.
    while distance(accepts, begin, goal, sizes=sizes_to(most)) is None:
        most += 1
    return most


def sizes_to(most):
    return tuple(range(2, most + 1))


def classes(accepts, *, sizes=(2,)):
    found = []
    known = {}
    for holding in holdings_of(accepts):
        if holding not in known:
            some = reachable(accepts, holding, sizes=sizes)
            found.append(some)
            for other in some:
                known[other] = True
    # Each class was found by its least holding, so they are ascending.
    return tuple(found)


def class_tree(accepts):
    many = len(people_of(accepts))
    return tuple([classes(accepts, sizes=sizes_to(most)) for most in range(1, many + 1)])
