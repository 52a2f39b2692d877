"""Papers of rings that are done by smaller ones: trees of shortcuts."""

from handround.holdings import item_of
from handround.shortcuts import check_possible, shortcuts_of, split
from handround.trades import moved


def split_paper(accepts, holding, ring, *, sizes=(2,)):
    check_possible(accepts, holding, ring)
    known = {}
    return tree_of(accepts, holding, ring, sizes, known)


def tree_of(accepts, holding, ring, sizes, known):
    """Any tree, or None; known has what was found for the people of a ring and what they hold."""
    if len(ring) in sizes:
        return ("ring",)
    held = tuple([(person, item_of(holding, person)) for person in ring])
    if held not in known:
        known[held] = split_tree(accepts, holding, ring, sizes, known)
    return known[held]


def split_tree(accepts, holding, ring, sizes, known):
    """Any tree that begins with a shortcut, or None."""
    for pair in shortcuts_of(accepts, holding, ring):
        first, rest = split(accepts, holding, ring, pair)
        one = tree_of(accepts, holding, first, sizes, known)
        other = None if one is None else tree_of(accepts, moved(holding, first), rest, sizes, known)
        if other is not None:
            return ("split", pair, one, other)
    return None
