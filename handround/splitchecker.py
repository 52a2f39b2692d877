"""The checker of trees of shortcuts: it confirms without searching."""

from handround.errors import InvalidPaper
from handround.kinds import is_pair
from handround.papers import has_form
from handround.shortcuts import check_possible, shortcuts_of, split
from handround.trades import moved

LEAF = ("ring",)


def lets_split(accepts, holding, ring, thing, *, sizes=(2,)):
    check_possible(accepts, holding, ring)
    if not is_tree(thing):
        raise InvalidPaper("shape", -1)
    waiting = [(holding, ring, thing)]
    at = 0
    leaves = 0
    while waiting:
        then, part, node = waiting.pop()
        if node == LEAF:
            if len(part) not in sizes:
                raise InvalidPaper("size", at)
            leaves += 1
        else:
            # The last one waiting is the next one: the parts of one come ahead of other.
            waiting.extend(parts_after(accepts, then, part, node, at))
        at += 1
    return leaves


def parts_after(accepts, holding, ring, node, at):
    """What is left of the node with this number: the other part, and the one, each with its ring."""
    _, pair, one, other = node
    if pair not in shortcuts_of(accepts, holding, ring):
        raise InvalidPaper("shortcut", at)
    first, rest = split(accepts, holding, ring, pair)
    return [(moved(holding, first), rest, other), (holding, first, one)]


def is_tree(thing):
    # Without recursion: any value may be nested deeply.
    waiting = [thing]
    while waiting:
        node = waiting.pop()
        if is_split(node):
            waiting.extend(node[2:])
        elif node != LEAF:
            return False
    return True


def is_split(thing):
    return has_form(thing, "split", 4) and is_pair(thing[1])
