"""Kinds of values, told by the value alone: any value is accepted."""

from handround.orders import least

LETTERS = "abcdefghijklmnopqrstuvwxyz"
MOST_LETTERS = 8


def is_number(thing):
    # Python counts True and False among the ints, the document does not.
    return isinstance(thing, int) and not isinstance(thing, bool) and thing >= 0


def is_name(thing):
    # Python's own tests for letters also take letters beyond a to z.
    if not isinstance(thing, str) or len(thing) > MOST_LETTERS:
        return False
    return thing != "" and all([letter in LETTERS for letter in thing])


def is_pair(thing):
    return isinstance(thing, tuple) and len(thing) == 2 and are_names(thing)


def is_people(thing):
    return isinstance(thing, tuple) and are_names(thing) and rises(thing)


def is_ring(thing):
    return is_round(thing) and thing[0] == least(thing)


def is_round(thing):
    """Whether it is a tuple of two or more different names: a ring but for the one with whom it begins."""
    return isinstance(thing, tuple) and len(thing) >= 2 and are_names(thing) and all_differ(thing)


def is_row(thing):
    return isinstance(thing, tuple) and all([is_ring(ring) for ring in thing])


def is_sizes(thing):
    if not isinstance(thing, tuple) or not all([is_number(size) for size in thing]):
        return False
    return rises(thing) and all([size >= 2 for size in thing])


def is_pairs(thing):
    """Whether it is a nonempty tuple of pairs of names, in any order."""
    return isinstance(thing, tuple) and len(thing) > 0 and all([is_pair(pair) for pair in thing])


def are_names(things):
    return all([is_name(thing) for thing in things])


def all_differ(things):
    return len(set(things)) == len(things)


def rises(things):
    """Whether the things, of one kind that can be compared, are ascending."""
    return all([one < other for one, other in zip(things, things[1:])])
