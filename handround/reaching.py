"""What can be reached by rows of allowed rings, and how fast."""

from handround.orders import ascending
from handround.trades import moved, trades_in


def reachable(accepts, holding, *, sizes=(2,)):
    return ascending(steps_to(accepts, holding, None, sizes))


def distance(accepts, begin, goal, *, sizes=(2,)):
    row = least_row(accepts, begin, goal, sizes=sizes)
    return None if row is None else len(row)


def least_row(accepts, begin, goal, *, sizes=(2,)):
    steps = steps_to(accepts, begin, goal, sizes)
    return row_along(steps, begin, goal) if goal in steps else None


def row_along(steps, begin, goal):
    """The row to the goal, of which steps has for each holding the last step that leads there."""
    rings = []
    holding = goal
    while holding != begin:
        holding, ring = steps[holding]
        rings.append(ring)
    return tuple(rings[::-1])


def steps_to(accepts, begin, goal, sizes):
    """For each holding, by nearness, the last step that leads there: the holding before and the ring.

    It stops when the goal is among them; with None as the goal it finds all that can be reached.
    """
    steps = {begin: None}
    queue = [begin]
    at = 0
    while at < len(queue) and goal not in steps:
        holding = queue[at]
        for ring in trades_in(accepts, holding, sizes=sizes):
            after = moved(holding, ring)
            if after not in steps:
                steps[after] = (holding, ring)
                queue.append(after)
        at += 1
    return steps


def steps_by(rings_from, begin, goal):
    """The steps as of steps_to, with the rings that rings_from returns for a holding.

    steps_to does not go through it: what a property runs may not call what it is passed.
    """
    steps = {begin: None}
    queue = [begin]
    at = 0
    while at < len(queue) and goal not in steps:
        holding = queue[at]
        for ring in rings_from(holding):
            after = moved(holding, ring)
            if after not in steps:
                steps[after] = (holding, ring)
                queue.append(after)
        at += 1
    return steps


def rows_within(accepts, begin, goal, most, *, sizes=(2,)):
    row = ()
    if begin == goal:
        yield row
    ahead = [{goal: True}]
    for many in range(1, most + 1):
        yield from rows_through(accepts, begin, ahead, sizes, row)
        # The last one serves the next round only, and costs the most.
        if many < most:
            ahead = [*ahead, one_step_from(accepts, ahead[-1], sizes)]


def one_step_from(accepts, holdings, sizes):
    """The holdings that one trade leads to, and, as trades can be taken back, from which one leads here."""
    found = {}
    for holding in holdings:
        for ring in trades_in(accepts, holding, sizes=sizes):
            found[moved(holding, ring)] = True
    return found


def rows_through(accepts, holding, ahead, sizes, row):
    """A generator of the rows that begin with this one, which led to the holding; ahead[k] has the
    holdings from which exactly k more trades lead to the goal."""
    left = len(ahead) - len(row)
    if left == 0:
        yield row
        return
    for ring in trades_in(accepts, holding, sizes=sizes):
        after = moved(holding, ring)
        if after in ahead[left - 1]:
            longer = (*row, ring)
            yield from rows_through(accepts, after, ahead, sizes, longer)
