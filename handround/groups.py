"""Groups: who has to take part."""

from handround.differences import difference
from handround.errors import UnknownPair, UnknownPerson
from handround.holdings import people_of
from handround.orders import ascending
from handround.reaching import distance, reachable, steps_by
from handround.trades import trades_in


def with_group(accepts, begin, goal, group, *, sizes=(2,)):
    check_group(accepts, group)
    if not all([pair in goal for pair in begin if pair[0] not in group]):
        return False
    # Rings of the group go round as if there were nobody else.
    own_goal = own_pairs(goal, group)
    return distance(own_pairs(accepts, group), own_pairs(begin, group), own_goal, sizes=sizes) is not None


def check_group(accepts, group):
    people = people_of(accepts)
    for person in group:
        if person not in people:
            raise UnknownPerson(person)


def own_pairs(pairs, group):
    return tuple([pair for pair in pairs if pair[0] in group])


def rings_of_group(accepts, holding, group, sizes):
    """The allowed possible rings of the group, ascending."""
    own_accepts = own_pairs(accepts, group)
    own_holding = own_pairs(holding, group)
    return list(trades_in(own_accepts, own_holding, sizes=sizes))


def group_steps(accepts, begin, goal, group, sizes):
    """The steps, as of steps_by, of trades of the group."""
    def rings_from(holding):
        return rings_of_group(accepts, holding, group, sizes)

    return steps_by(rings_from, begin, goal)


def least_groups(accepts, begin, goal, *, sizes=(2,)):
    helpers = least_helpers(accepts, begin, goal, sizes=sizes)
    return groups_with(people_between(begin, goal), helpers)


def least_helpers(accepts, begin, goal, *, sizes=(2,)):
    moving = people_between(begin, goal)

    def are_enough(helpers):
        return with_group(accepts, begin, goal, joined(moving, helpers), sizes=sizes)

    # Without all who are in the difference no group leads to the goal.
    return minimal_parts(others_than(accepts, moving), are_enough)


def groups_for(accepts, begin, person, item, *, sizes=(2,)):
    pair = (person, item)
    if pair not in accepts:
        raise UnknownPair(pair)
    if pair in begin:
        return ((),)

    def are_enough(helpers):
        group = joined((person,), helpers)
        holdings = reachable(own_pairs(accepts, group), own_pairs(begin, group), sizes=sizes)
        return any([pair in holding for holding in holdings])

    return groups_with((person,), minimal_parts(others_than(accepts, (person,)), are_enough))


def people_between(begin, goal):
    """Everybody who is in the difference."""
    return tuple([person for ring in difference(begin, goal) for person in ring])


def others_than(accepts, group):
    return [person for person in people_of(accepts) if person not in group]


def joined(people, helpers):
    return ascending([*people, *helpers])


def groups_with(people, parts):
    return ascending([joined(people, part) for part in parts])


def minimal_parts(things, are_enough):
    """The ascending tuple of all parts that are enough, while no smaller part of them is."""
    found = []
    for part in parts_of(things):
        if not any([is_part(known, part) for known in found]) and are_enough(part):
            found.append(part)
    return ascending(found)


def parts_of(things):
    """All parts of the things, each after the parts of it."""
    parts = [()]
    for thing in things:
        parts = parts + [(*part, thing) for part in parts]
    return parts


def is_part(some, things):
    return all([one in things for one in some])
