"""Direct rows: no trade of them is a detour."""

from handround.differences import difference, needed
from handround.kinds import rises
from handround.reaching import row_along, steps_by
from handround.trades import bar_of, effort_of, moved, trades_in, turned_to


def is_direct(accepts, begin, goal, row):
    holding = begin
    for ring in row:
        if bar_of(accepts, holding, ring) is not None:
            return False
        holding = moved(holding, ring)
    return holding == goal and effort_of(row) == needed(begin, goal)


def is_direct_trade(accepts, holding, goal, ring):
    return bar_of(accepts, holding, ring) is None and is_along_one(difference(holding, goal), ring)


def is_along_one(wholes, ring):
    return any([is_along(whole, ring) for whole in wholes])


def is_along(whole, ring):
    """Whether all people of the ring are in the whole one, in its cyclic order."""
    if not all([person in whole for person in ring]):
        return False
    turned = turned_to(whole, ring[0])
    return rises([turned.index(person) for person in ring])


def direct_trades(accepts, begin, goal, *, sizes=(2,)):
    wholes = difference(begin, goal)
    for ring in trades_in(accepts, begin, sizes=sizes):
        if is_along_one(wholes, ring):
            yield ring


def direct_row(accepts, begin, goal, *, sizes=(2,)):
    steps = direct_steps(accepts, begin, goal, sizes)
    return row_along(steps, begin, goal) if goal in steps else None


def direct_steps(accepts, begin, goal, sizes):
    """The steps, as of steps_by, of direct trades for the goal."""
    def rings_from(holding):
        return list(direct_trades(accepts, holding, goal, sizes=sizes))

    return steps_by(rings_from, begin, goal)
