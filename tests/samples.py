"""Values for the tests, and direct computations by the words of the document."""

import random
from itertools import permutations

THREE = (("ann", "bed"), ("ann", "cot"), ("bob", "cot"), ("bob", "den"), ("cy", "bed"), ("cy", "den"))
FIRST = (("ann", "bed"), ("bob", "cot"), ("cy", "den"))
LAST = (("ann", "cot"), ("bob", "den"), ("cy", "bed"))
MORE = (
    ("ann", "bed"), ("ann", "cot"), ("bob", "cot"), ("bob", "den"),
    ("cy", "bed"), ("cy", "cot"), ("cy", "den"),
)
# Two people with two items that both accept.
BOTH = (("ann", "bed"), ("ann", "cot"), ("bob", "bed"), ("bob", "cot"))
# THREE with dan, who accepts everything: with his help two at once suffice, by a detour.
HELPED = tuple(sorted(THREE + (("ann", "elm"), ("dan", "bed"), ("dan", "cot"), ("dan", "den"), ("dan", "elm"))))
FIRST_HELPED = FIRST + (("dan", "elm"),)
LAST_HELPED = LAST + (("dan", "elm"),)
# cy accepts an item that nobody can spare: there is no holding.
NONE = (("ann", "bed"), ("bob", "bed"), ("bob", "cot"), ("bob", "den"), ("cy", "bed"))
# People and items have the same names, of one and of eight letters.
SAME = (("a", "a"), ("a", "abcdefgh"), ("abcdefgh", "a"), ("abcdefgh", "abcdefgh"))

PEOPLE = ("ann", "bob", "cy", "dan", "eve", "fay", "gus", "hal")
ITEMS = ("bed", "cot", "den", "elm", "fan", "gem", "hat", "ink")
HUGE = 10 ** 59
DEEP = ()
for _ in range(29):
    DEEP = (DEEP,)

# Any value by [2], none of them a name, a number or a tuple that is something.
STRANGE = (
    True, False, None, -1, -HUGE, "Ann", "", "-", " ", "ann ", "an n", "ann\n", "a1", "abcdefghi",
    [], ["ann"], [("ann", "bed")], [["ann", "bed"]], (("ann", ["bed"]),), (None,), ((),), ([],), DEEP,
    ("ann", True), (True, False), (1, "ann"), (("ann", "bed"), None), ("ann", "bed", "cot", None),
    ((("ann", "bed"),),), (["ann", "bob"],), [2], (2, True), ("2",), (-1,),
)
# Values that are something, each for another question.
KNOWN = (
    0, 1, 2, 7, HUGE, "a", "ann", "abcdefgh", (), ("ann",), ("ann", "bob"), ("bob", "ann"), ("ann", "ann"),
    ("ann", "bob", "cy"), ("ann", "cy", "bob"), (("ann", "bob"),), (("ann", "bob"), ("ann", "cy", "bob")),
    (2,), (2, 3), (3, 2), (2, 2), (1, 2), (0,), (2, HUGE), THREE, MORE, FIRST, LAST, BOTH,
    ("trade", ("ann", "bob")), ("accept", ("ann", "bed")), ("goal", None), ("enter", "zoe", "zip"),
)
ANY = STRANGE + KNOWN


def full(many):
    return tuple((person, item) for person in PEOPLE[:many] for item in ITEMS[:many])


def plain(many):
    """The holding in which people and items stand side by side."""
    return tuple(zip(PEOPLE[:many], ITEMS))


def turned(many):
    """The holding in which everybody has the item of the next one."""
    return tuple(zip(PEOPLE[:many], ITEMS[1:many] + ITEMS[:1]))


def circle(many):
    """Everybody accepts the own item and the next one: one bare ring of all."""
    return tuple(sorted(plain(many) + turned(many)))


def some_accepts(seed, many, extra):
    """Accepts of so many people, with a holding, and up to so many pairs more."""
    chance = random.Random(seed)
    items = list(ITEMS[:many])
    chance.shuffle(items)
    pairs = set(zip(PEOPLE, items))
    for _ in range(extra):
        pairs.add((chance.choice(PEOPLE[:many]), chance.choice(items)))
    return tuple(sorted(pairs))


def all_accepts():
    """Some accepts of two to four people, sparse and dense."""
    some = [THREE, MORE, BOTH, SAME, full(3), circle(4)]
    return some + [some_accepts(seed, many, 2 * many + seed) for many in (2, 3, 4) for seed in range(4)]


def all_holdings(accepts):
    people = sorted({person for person, item in accepts})
    items = sorted({item for person, item in accepts})
    found = [tuple(zip(people, order)) for order in permutations(items)]
    return sorted(one for one in found if set(one) <= set(accepts))


def all_rings(names, sizes):
    """All rings of the names that sizes allow, ascending."""
    found = [ring for size in sizes if size <= len(names) for ring in permutations(names, size)]
    return sorted(ring for ring in found if ring[0] == min(ring))


def handed(holding, ring):
    """The holding after the ring, as a dict."""
    after = dict(holding)
    for place, person in enumerate(ring):
        after[ring[(place + 1) % len(ring)]] = dict(holding)[person]
    return after


def after_rings(many, *rings):
    """What so many people hold after these rings, who held the items of the plain holding."""
    holding = plain(many)
    for ring in rings:
        holding = tuple(sorted(handed(holding, ring).items()))
    return holding


def all_steps(accepts, holding, sizes):
    """All pairs (ring, holding after it), ascending."""
    rings = all_rings(sorted(dict(holding)), sizes)
    steps = [(ring, tuple(sorted(handed(holding, ring).items()))) for ring in rings]
    return [(ring, after) for ring, after in steps if set(after) <= set(accepts)]


def distances(accepts, begin, sizes):
    """How many trades it takes at least, for each holding that can be reached."""
    found = {begin: 0}
    news = {begin}
    many = 0
    while news:
        many += 1
        news = {to for one in news for ring, to in all_steps(accepts, one, sizes)} - set(found)
        found.update(dict.fromkeys(news, many))
    return found


def least_width(accepts, begin, goal):
    most = 1
    while goal not in distances(accepts, begin, range(2, most + 1)):
        most += 1
    return most


def all_rows(accepts, begin, goal, most, sizes):
    """All rows that lead to the goal, by length, then ascending."""
    rows = [((), begin)]
    found = []
    for many in range(most + 1):
        found.extend(sorted(row for row, at in rows if at == goal))
        rows = [(row + (ring,), to) for row, at in rows for ring, to in all_steps(accepts, at, sizes)]
    return found


def is_bare_by_words(accepts, pairs):
    """[6] but for the choice between the two tuples of a bare ring."""
    people = [person for person, item in pairs]
    items = [item for person, item in pairs]
    if len(set(people)) < len(people) or len(set(items)) < len(items) or pairs[0] != min(pairs):
        return False
    for place, person in enumerate(people):
        needed = {items[place], items[(place + 1) % len(items)]}
        if {item for item in items if (person, item) in accepts} != needed:
            return False
    return True


def all_bare(accepts):
    many = len({person for person, item in accepts})
    lesser = {}
    for size in range(2, many + 1):
        for pairs in permutations(accepts, size):
            if is_bare_by_words(accepts, pairs):
                key = (frozenset(dict(pairs)), frozenset(dict(pairs).values()))
                lesser[key] = min(lesser.get(key, pairs), pairs)
    return tuple(sorted(lesser.values()))


def rings_between(begin, goal):
    """The difference of [5]: the holder of an item is followed by the one who gets it."""
    taker = {item: person for person, item in goal}
    follows = {person: taker[item] for person, item in begin if taker[item] != person}
    found = []
    for person in sorted(follows):
        if not any(person in ring for ring in found):
            ring = (person,)
            while follows[ring[-1]] != person:
                ring += (follows[ring[-1]],)
            found.append(ring)
    return tuple(found)


def needed_between(begin, goal):
    rings = rings_between(begin, goal)
    return sum(map(len, rings)) - len(rings)
