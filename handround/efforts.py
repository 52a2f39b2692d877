"""What it costs to get from one holding to another, and the detours that it takes."""

from handround.differences import needed
from handround.trades import moved, trades_in


def parity_of(begin, goal):
    return needed(begin, goal) % 2


def least_effort(accepts, begin, goal, *, sizes=(2,)):
    costs = costs_to(accepts, begin, goal, sizes)
    return costs[goal][0] if goal in costs else None


def least_detour(accepts, begin, goal, *, sizes=(2,)):
    effort = least_effort(accepts, begin, goal, sizes=sizes)
    return None if effort is None else effort - needed(begin, goal)


def costs_to(accepts, begin, goal, sizes):
    """For each holding, by effort, the least effort and the last step of such a row: the holding before
    and the ring.

    It stops when the goal is among them; with None as the goal it finds all that can be reached.
    """
    costs = {}
    # waiting[k] has the holdings to which some row of effort k leads, with its last step.
    waiting = [{begin: None}]
    effort = 0
    while effort < len(waiting) and goal not in costs:
        fresh = [holding for holding in waiting[effort] if holding not in costs]
        for holding in fresh:
            costs[holding] = (effort, waiting[effort][holding])
            for ring in trades_in(accepts, holding, sizes=sizes):
                add_waiting(waiting, effort + len(ring) - 1, moved(holding, ring), (holding, ring))
        effort += 1
    return costs


def add_waiting(waiting, effort, holding, step):
    while len(waiting) <= effort:
        waiting.append({})
    waiting[effort][holding] = step
