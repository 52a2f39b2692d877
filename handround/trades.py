"""Ring trades: each person hands the own item to the next one in the ring."""

from handround.errors import InvalidTrade


def bar_of(accepts, holding, ring):
    items = dict(holding)
    if not all([person in items for person in ring]):
        return "person"
    if not all([pair in accepts for pair in pairs_got(items, ring)]):
        return "accept"
    return None


def pairs_got(items, ring):
    """Everybody of the ring with the item that they would get; items tells what each person holds."""
    givers = ring[-1:] + ring[:-1]
    return [(person, items[giver]) for giver, person in zip(givers, ring)]


def after_ring(accepts, holding, ring):
    reason = bar_of(accepts, holding, ring)
    if reason is not None:
        raise InvalidTrade(ring, reason)
    return moved(holding, ring)


def after_row(accepts, holding, *rings):
    after = holding
    for ring in rings:
        after = after_ring(accepts, after, ring)
    return after


def moved(holding, ring):
    """The holding after a ring of its people, whatever they accept."""
    got = dict(pairs_got(dict(holding), ring))
    return tuple([(person, got.get(person, item)) for person, item in holding])


def turned_to(ring, person):
    """The same ring, begun with this person of it."""
    start = ring.index(person)
    return ring[start:] + ring[:start]


def effort_of(row):
    return sum([len(ring) - 1 for ring in row])


def trades_in(accepts, holding, *, sizes=(2,)):
    takers = takers_of(accepts, holding)
    if sizes:
        for person in takers:
            begun = (person,)
            yield from rings_after(takers, sizes, begun)


def takers_of(accepts, holding):
    """For each person, ascending, everybody who accepts the item held."""
    return {person: accepting(accepts, item) for person, item in holding}


def accepting(accepts, item):
    return tuple([person for person, other in accepts if other == item])


def rings_after(takers, sizes, begun):
    """A generator of the allowed possible rings that begin with these people, ascending."""
    nearest = takers[begun[-1]]
    if len(begun) in sizes and begun[0] in nearest:
        yield begun
    # A size may be too great a number to count up to; the last one is the greatest.
    if len(begun) < sizes[-1]:
        for person in nearest:
            if person > begun[0] and person not in begun:
                longer = (*begun, person)
                yield from rings_after(takers, sizes, longer)
