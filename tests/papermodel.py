"""Rows, papers and checkers by the words of the document, and wrong papers that are made of right ones."""

import random
import re
from copy import deepcopy
from itertools import combinations

from handround.errors import InvalidPaper
from tests.samples import (
    ANY, FIRST, LAST, MORE, THREE, all_holdings, all_steps, circle, full, handed, plain, rings_between, some_accepts,
    turned,
)

# None of these is a ring; none of the others a holding of MORE, but all are of the shape that a paper has there.
NO_RINGS = ((), ("bob",), ("cy", "bob"), ("bob", "bob"), ("bob", "cy", "bob"))
NO_HOLDINGS = (
    (), FIRST[:2], FIRST[::-1], FIRST + FIRST, FIRST[:2] + (("cy", "cot"),), MORE, LAST[:1],
    (("ann", "bed"), ("bob", "cot"), ("zoe", "den")), (("ann", "den"), ("bob", "cot"), ("cy", "bed")),
)
# No tuples of tuples of names, and no tuples of tuples of pairs of names.
NO_NAMES = ([("bob", "cy")], (["bob", "cy"],), "row", None, 0, True, ("ann", "bob"), (FIRST,), (((),),))
NO_PAIRS = (
    [FIRST], (list(FIRST),), (tuple(map(list, FIRST)),), FIRST, None, 1, "closed", (FIRST, None), (FIRST, [()]),
    ((FIRST,),), (("ann", "bed"),),
)
# No papers, by their words, lengths and kinds.
NO_PAPERS = (
    ("row",), ("row", (), ()), ("closed",), ("closed", (FIRST,), ()), ("rows", ()), ("Row", ()), ("", ()), (None, ()),
    (True, ()), (("row",), ()), ["row", ()], ["closed", (FIRST,)], ((), "row"), "row", ("effort", ()), ("settled", ()),
)

ALL_SIZES = ((2,), (2, 3), (3,), (), (2, 3, 4), (2, 4), (3, 5), (4, 7), (2, 10 ** 40))


def cases():
    """Triples (accepts, begin, goal) of two to four people, equal holdings among them."""
    chance = random.Random(7)
    found = [(THREE, FIRST, LAST), (MORE, FIRST, LAST), (MORE, LAST, FIRST), (MORE, FIRST, FIRST)]
    for many in (2, 3, 4, 4):
        for extra in (many, 2 * many, 4 * many):
            accepts = some_accepts(extra, many, extra)
            holdings = all_holdings(accepts)
            found.extend((accepts, chance.choice(holdings), chance.choice(holdings)) for _ in range(3))
    return found + [(full(4), plain(4), turned(4)), (circle(4), plain(4), turned(4))]


def likes_of(accepts, seed):
    """The likes of people who order their accepted items by chance."""
    chance = random.Random(seed)
    found = []
    for person in sorted(dict(accepts)):
        items = [item for other, item in accepts if other == person]
        chance.shuffle(items)
        found.append((person, tuple(items)))
    return tuple(found)


def parts(things):
    return [some for many in range(len(things) + 1) for some in combinations(things, many)]


# Steps: all pairs (ring, holding after it) of a kind, ascending.

def goes_round(whole, ring):
    """Whether the ring is what is left of the whole one without some people, begun anywhere."""
    turns = [whole[at:] + whole[:at] for at in range(len(whole))]
    return any(tuple(name for name in turn if name in ring) == ring for turn in turns)


def direct_steps(accepts, holding, goal, sizes):
    wholes = rings_between(holding, goal)
    steps = all_steps(accepts, holding, sizes)
    return [(ring, after) for ring, after in steps if any(goes_round(whole, ring) for whole in wholes)]


def group_steps(accepts, holding, group, sizes):
    return [(ring, after) for ring, after in all_steps(accepts, holding, sizes) if set(ring) <= set(group)]


def fair_steps(accepts, likes, holding, sizes):
    def prefers(person, after):
        items = dict(likes)[person]
        return items.index(dict(after)[person]) < items.index(dict(holding)[person])

    steps = all_steps(accepts, holding, sizes)
    return [(ring, after) for ring, after in steps if all(prefers(person, after) for person in ring)]


def reached(begin, steps_of):
    """All holdings that a row of such steps leads to."""
    found = {begin}
    news = [begin]
    while news:
        news = sorted({after for one in news for ring, after in steps_of(one)} - found)
        found.update(news)
    return found


def row_or_closed(begin, goal, steps_of):
    """A paper found by the words: with a row of fewest steps, or with all that such steps lead to."""
    rows = {begin: ()}
    news = [begin]
    while news:
        at = news.pop(0)
        for ring, after in steps_of(at):
            if after not in rows:
                rows[after] = rows[at] + (ring,)
                news.append(after)
    return ("row", rows[goal]) if goal in rows else ("closed", tuple(sorted(rows)))


def efforts(accepts, begin, sizes):
    """The least efforts of all that can be reached, made less until no trade makes one less."""
    steps = {one: all_steps(accepts, one, sizes) for one in all_holdings(accepts)}
    found = {begin: 0}
    while True:
        less = dict(found)
        for one in found:
            for ring, after in steps[one]:
                effort = found[one] + len(ring) - 1
                less[after] = min(less.get(after, effort), effort)
        if less == found:
            return found
        found = less


# Checkers: each returns a pair, ("true", what is returned) or the word and the place of the error.

def is_name(thing):
    return type(thing) is str and re.fullmatch("[a-z]{1,8}", thing) is not None


def is_tuple(thing, is_one):
    return type(thing) is tuple and all(is_one(one) for one in thing)


def is_names(thing):
    return is_tuple(thing, is_name)


def is_pairs(thing):
    return is_tuple(thing, lambda pair: is_names(pair) and len(pair) == 2)


def is_rings(thing):
    return is_tuple(thing, is_names)


def is_mark(thing):
    if type(thing) is not tuple or len(thing) != 2:
        return False
    return is_pairs(thing[0]) and type(thing[1]) is int and thing[1] >= 0


def has_word(thing, word, many=2):
    return type(thing) is tuple and len(thing) == many and type(thing[0]) is str and thing[0] == word


def is_row(thing):
    return has_word(thing, "row") and is_rings(thing[1])


def is_closed(thing):
    return has_word(thing, "closed") and is_tuple(thing[1], is_pairs)


def row_fault(begin, goal, rings, word, steps_of):
    holding = begin
    for at, ring in enumerate(rings):
        after = dict(steps_of(holding))
        if ring not in after:
            return (word, at)
        holding = after[ring]
    return None if holding == goal else ("goal", -1)


def holdings_fault(accepts, holdings):
    known = all_holdings(accepts)
    for at, holding in enumerate(holdings):
        if holding not in known:
            return ("holding", at)
        if at > 0 and not holdings[at - 1] < holding:
            return ("rise", at)
    return None


def closed_fault(accepts, begin, goal, holdings, word, steps_of):
    fault = holdings_fault(accepts, holdings)
    if fault is not None:
        return fault
    if begin not in holdings:
        return ("begin", -1)
    if goal in holdings:
        return ("goal", -1)
    for at, holding in enumerate(holdings):
        for ring, after in steps_of(holding):
            if after not in holdings:
                return (word, (at, ring))
    return None


def marks_fault(begin, goal, rings, marks, steps_of):
    if (begin, 0) not in marks:
        return ("begin", -1)
    for at, (holding, number) in enumerate(marks):
        for ring, after in steps_of(holding):
            if after not in dict(marks) or dict(marks)[after] > number + len(ring) - 1:
                return ("mark", (at, ring))
    return None if dict(marks)[goal] == sum(len(ring) - 1 for ring in rings) else ("least", -1)


def told_direct(accepts, begin, goal, thing, sizes):
    def steps_of(holding):
        return direct_steps(accepts, holding, goal, sizes)

    if is_row(thing):
        return row_fault(begin, goal, thing[1], "trade", steps_of) or ("true", True)
    if is_closed(thing):
        return closed_fault(accepts, begin, goal, thing[1], "leaves", steps_of) or ("true", False)
    return ("shape", -1)


def told_effort(accepts, begin, goal, thing, sizes):
    def steps_of(holding):
        return all_steps(accepts, holding, sizes)

    if has_word(thing, "effort", 3) and is_rings(thing[1]) and is_tuple(thing[2], is_mark):
        rings, marks = thing[1:]
        fault = row_fault(begin, goal, rings, "trade", steps_of)
        fault = fault or holdings_fault(accepts, [holding for holding, number in marks])
        fault = fault or marks_fault(begin, goal, rings, marks, steps_of)
        return fault or ("true", sum(len(ring) - 1 for ring in rings))
    if is_closed(thing):
        return closed_fault(accepts, begin, goal, thing[1], "leaves", steps_of) or ("true", None)
    return ("shape", -1)


def told_group(accepts, begin, goal, group, thing, sizes):
    def steps_of(holding):
        return group_steps(accepts, holding, group, sizes)

    if is_row(thing):
        return row_fault(begin, goal, thing[1], "ring", steps_of) or ("true", True)
    if is_closed(thing):
        return closed_fault(accepts, begin, goal, thing[1], "trade", steps_of) or ("true", False)
    return ("shape", -1)


def told_end(accepts, likes, begin, goal, thing, sizes):
    def steps_of(holding):
        return fair_steps(accepts, likes, holding, sizes)

    if is_row(thing):
        fault = row_fault(begin, goal, thing[1], "ring", steps_of)
        fair = [ring for ring, after in steps_of(goal)]
        return fault or (("settled", fair[0]) if fair else ("true", True))
    if has_word(thing, "open") and is_names(thing[1]):
        return ("true", False) if thing[1] in dict(steps_of(goal)) else ("fair", -1)
    if is_closed(thing):
        return closed_fault(accepts, begin, goal, thing[1], "trade", steps_of) or ("true", False)
    return ("shape", -1)


def reach_row_fault(accepts, begin, goal, rings, sizes):
    holding = begin
    for at, ring in enumerate(rings):
        if len(set(ring)) < len(ring) or len(ring) < 2 or ring[0] != min(ring) or len(ring) not in sizes:
            return ("ring", at)
        after = dict(all_steps(accepts, holding, sizes))
        if ring not in after:
            return ("possible", at)
        holding = after[ring]
    return None if holding == goal else ("goal", -1)


def reach_closed_fault(accepts, begin, goal, holdings, sizes):
    fault = closed_fault(accepts, begin, goal, holdings, "open", lambda holding: all_steps(accepts, holding, sizes))
    if fault is not None and fault[0] == "rise":
        return ("holding", fault[1])
    return ("open", fault[1][0]) if fault is not None and fault[0] == "open" else fault


def told_reach(accepts, begin, goal, thing, sizes):
    if is_row(thing):
        return reach_row_fault(accepts, begin, goal, thing[1], sizes) or ("true", True)
    if is_closed(thing):
        return reach_closed_fault(accepts, begin, goal, thing[1], sizes) or ("true", False)
    return ("shape", -1)


def is_width(thing):
    if type(thing) is not tuple or len(thing) != 3:
        return False
    return type(thing[0]) is int and thing[0] >= 0 and is_rings(thing[1]) and is_tuple(thing[2], is_pairs)


def told_width(accepts, begin, goal, thing):
    if not is_width(thing):
        return ("shape", -1)
    number, rings, holdings = thing
    if number == 0:
        return ("number", -1)
    # No ring of the tests has so many people.
    sizes = range(2, min(number, 99) + 1)
    fault = reach_row_fault(accepts, begin, goal, rings, sizes)
    if fault is None and number == 1:
        fault = None if holdings == () else ("extra", -1)
    elif fault is None:
        fault = reach_closed_fault(accepts, begin, goal, holdings, range(2, min(number - 1, 99) + 1))
    return fault or ("true", number)


# Shortcuts and trees

def along(ring, person, last):
    """The people from the one to the other, along the ring."""
    found = (person,)
    while found[-1] != last:
        found += (ring[(ring.index(found[-1]) + 1) % len(ring)],)
    return found


def from_least(ring):
    return min(ring[at:] + ring[:at] for at in range(len(ring)))


def shortcuts_by_words(accepts, holding, ring):
    after = handed(holding, ring)
    owners = {item: person for person, item in holding}
    return tuple(
        (person, item) for person, item in accepts
        if person in ring and owners[item] in ring and owners[item] != person and after[person] != item
    )


def split_by_words(holding, ring, pair):
    person, item = pair
    giver = {held: owner for owner, held in holding}[item]
    follower = ring[(ring.index(giver) + 1) % len(ring)]
    before = ring[ring.index(person) - 1]
    return from_least(along(ring, person, giver)), from_least((person,) + along(ring, follower, before))


def all_trees(accepts, holding, ring, sizes):
    """All trees, each way tried."""
    found = [("ring",)] if len(ring) in sizes else []
    for pair in shortcuts_by_words(accepts, holding, ring):
        first, rest = split_by_words(holding, ring, pair)
        ones = all_trees(accepts, holding, first, sizes)
        after = tuple(sorted(handed(holding, first).items()))
        others = all_trees(accepts, after, rest, sizes) if ones else []
        found.extend(("split", pair, one, other) for one in ones for other in others)
    return found


def is_tree(thing):
    if has_word(thing, "ring", 1):
        return True
    if not has_word(thing, "split", 4) or not is_names(thing[1]) or len(thing[1]) != 2:
        return False
    return is_tree(thing[2]) and is_tree(thing[3])


def nodes_of(accepts, holding, ring, tree, sizes):
    """The word for each node, a fault or None; a node with a fault is the last one."""
    if tree == ("ring",):
        return [None if len(ring) in sizes else "size"]
    _, pair, one, other = tree
    if pair not in shortcuts_by_words(accepts, holding, ring):
        return ["shortcut"]
    first, rest = split_by_words(holding, ring, pair)
    found = [None] + nodes_of(accepts, holding, first, one, sizes)
    if found[-1] is None:
        found += nodes_of(accepts, tuple(sorted(handed(holding, first).items())), rest, other, sizes)
    return found


def leaves_of(tree):
    return 1 if tree == ("ring",) else leaves_of(tree[2]) + leaves_of(tree[3])


def told_split(accepts, holding, ring, thing, sizes):
    if not is_tree(thing):
        return ("shape", -1)
    words = nodes_of(accepts, holding, ring, thing, sizes)
    return ("true", leaves_of(thing)) if words[-1] is None else (words[-1], len(words) - 1)


def told(function, *given, **named):
    """What a checker of the package says, in the same form."""
    try:
        return ("true", function(*given, **named))
    except InvalidPaper as error:
        return (error.word, error.at)


def kinds(thing):
    """The value with the kinds of all that is in it, so that True is not 1 and no list is a tuple."""
    if type(thing) in (tuple, list):
        return (type(thing).__name__, [kinds(one) for one in thing])
    return (type(thing).__name__, thing)


# Wrong papers

def changed(chance, thing, pool):
    """The value with one change somewhere in it; the pool has what may be put into it."""
    if type(thing) is tuple and thing and chance.random() < 0.8:
        at = chance.randrange(len(thing))
        return thing[:at] + (changed(chance, thing[at], pool),) + thing[at + 1:]
    way = chance.randrange(7)
    if way == 0 or type(thing) is not tuple:
        if type(thing) is int:
            return chance.choice((thing + 1, thing + 2, max(0, thing - 1), 0, True, False, None, -1, str(thing)))
        return deepcopy(chance.choice(pool))
    if way == 1:
        return list(thing)
    if way == 2:
        return thing[::-1]
    at = chance.randrange(len(thing) + 1)
    if way == 3:
        return thing[:at] + thing[at + 1:]
    if way == 4:
        return thing[:at] + thing[at:at + 1] * 2 + thing[at + 1:]
    if way == 5:
        return thing[:at] + thing[at + 1:at + 2] + thing[at:at + 1] + thing[at + 2:]
    return thing[:at] + (deepcopy(chance.choice(pool)),) + thing[at:]


def wrong_papers(seed, papers, pool, many):
    """Papers with one, two or three changes; few of them are still right."""
    chance = random.Random(seed)
    found = []
    for paper in papers:
        for _ in range(many):
            thing = paper
            for _ in range(chance.choice((1, 1, 1, 2, 3))):
                thing = changed(chance, thing, pool)
            found.append(thing)
    return found


def pool_of(accepts):
    """What may be put into a paper: people, items, pairs, rings, holdings, numbers and strange values."""
    people = sorted(dict(accepts))
    rings = [some for many in (2, 3) for some in combinations(people, many)]
    names = [*people, "zoe", accepts[0][1]]
    holdings = all_holdings(accepts)
    return names + list(accepts) + rings * 2 + holdings * 2 + [0, 1, 2, ("ann", "zoe"), ("zoe", "bed")] + list(ANY)
