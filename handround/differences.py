"""The rings in which items have to go from one holding to another."""

from handround.orders import least


def difference(begin, goal):
    takers = takers_between(begin, goal)
    rings = [ring_from(takers, person) for person in takers]
    # Each of its people gives the same ring once more; it is written from the least one.
    return tuple([ring for ring in rings if len(ring) > 1 and ring[0] == least(ring)])


def takers_between(begin, goal):
    """For each person, ascending, who holds the item of this person in the end."""
    holders = {item: person for person, item in goal}
    return {person: holders[item] for person, item in begin}


def ring_from(takers, person):
    ring = [person]
    while takers[ring[-1]] != person:
        ring.append(takers[ring[-1]])
    return tuple(ring)


def needed(begin, goal):
    return sum([len(ring) - 1 for ring in difference(begin, goal)])
