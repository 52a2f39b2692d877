"""Ascending order, for values of one kind that can be compared."""


def ascending(things):
    """The things as a tuple, sorted and without duplicates."""
    return tuple(sorted(set(things)))


def least(things):
    return ascending(things)[0]
