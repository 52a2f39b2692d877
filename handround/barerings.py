"""Bare rings: nobody in them accepts more of their items than they need."""

from handround.holdings import accepted_by, people_of
from handround.kinds import all_differ, is_pairs
from handround.orders import ascending, least


def is_bare(accepts, thing):
    if not is_pairs(thing) or len(thing) < 2 or thing[0] != least(thing) or not is_lesser(thing):
        return False
    people = [person for person, _ in thing]
    items = [item for _, item in thing]
    if not all_differ(people) or not all_differ(items):
        return False
    nearest = items[1:] + items[:1]
    return all([
        accepted_of(accepts, person, items) == ascending([own, other])
        for person, own, other in zip(people, items, nearest)
    ])


def is_lesser(pairs):
    # The other tuple of these people begins with the same person, who holds the next item there.
    return pairs[0][1] < pairs[1][1]


def accepted_of(accepts, person, items):
    return tuple([item for other, item in accepts if other == person and item in items])


def bare_rings(accepts):
    wants = {person: accepted_by(accepts, person) for person in people_of(accepts)}
    found = []
    for pair in accepts:
        found.extend([ring for ring in bare_after(wants, (pair,)) if is_lesser(ring)])
    return ascending(found)


def bare_after(wants, begun):
    """All bare rings, lesser or greater, that begin with these pairs and have more of them."""
    found = []
    for pair in pairs_after(wants, begun):
        longer = (*begun, pair)
        # Who accepts the first item closes the ring: in a longer one it would be one item too many.
        if begun[0][1] in wants[pair[0]]:
            found.append(longer)
        else:
            found.extend(bare_after(wants, longer))
    return found


def pairs_after(wants, begun):
    """The pairs that may follow, with nobody accepting too much; they may accept the first item."""
    first, _ = begun[0]
    taken = [item for _, item in begun[1:]]
    return [
        (person, item)
        for item in fresh_items(wants, begun)
        for person in wants
        if person > first and item in wants[person] and not have_common(taken, wants[person])
    ]


def fresh_items(wants, begun):
    """The items that the last person accepts and that nobody before does."""
    last, own = begun[-1]
    barred = [own]
    # What these people accept includes all items of the ring but the own one of the last.
    for person, _ in begun[:-1]:
        barred.extend(wants[person])
    return [item for item in wants[last] if item not in barred]


def have_common(items, others):
    return any([item in others for item in items])


def widest_bare(accepts):
    return max([len(ring) for ring in bare_rings(accepts)], default=0)
