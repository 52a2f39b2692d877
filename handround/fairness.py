"""Fair trades: everybody in them prefers the item that they get."""

from handround.likes import rank_of
from handround.reaching import steps_by
from handround.trades import bar_of, trades_in


def is_fair(accepts, likes, holding, ring):
    return bar_of(better_pairs(accepts, likes, holding), holding, ring) is None


def fair_trades(accepts, likes, holding, *, sizes=(2,)):
    better = better_pairs(accepts, likes, holding)
    yield from trades_in(better, holding, sizes=sizes)


def better_pairs(accepts, likes, holding):
    """What everybody would accept who takes nothing but what they prefer to the item held."""
    ranks = {person: rank_of(likes, person, item) for person, item in holding}
    return tuple([(person, item) for person, item in accepts if rank_of(likes, person, item) < ranks[person]])


def is_settled(accepts, likes, holding, *, sizes=(2,)):
    for _ in fair_trades(accepts, likes, holding, sizes=sizes):
        return False
    return True


def fair_steps(accepts, likes, begin, goal, sizes):
    """The steps, as of steps_by, of fair trades."""
    def rings_from(holding):
        return list(fair_trades(accepts, likes, holding, sizes=sizes))

    return steps_by(rings_from, begin, goal)
