"""Kinds of events, of goals and of logs: any value is accepted."""

from handround.acceptchecker import fault_of_accepts
from handround.holdings import is_holding
from handround.kinds import is_name, is_pair, is_pairs, is_ring, is_sizes


def is_event(thing):
    if not isinstance(thing, tuple) or len(thing) == 0:
        return False
    if thing[0] == "enter":
        return len(thing) == 3 and is_name(thing[1]) and is_name(thing[2])
    return len(thing) == 2 and may_follow(thing[0], thing[1])


def may_follow(word, value):
    """Whether the value makes an event of two parts with this word, which may be any value."""
    if word == "trade":
        return is_ring(value)
    if word == "accept" or word == "refuse":
        return is_pair(value)
    if word == "goal":
        return value is None or is_pairs(value)
    if word == "sizes":
        return is_sizes(value)
    return word == "leave" and is_name(value)


def is_whole_log(thing):
    """Whether it is a log by kind: how a market began, and the events."""
    if not isinstance(thing, tuple) or len(thing) == 0 or not is_beginning(thing[0]):
        return False
    return all([is_event(event) for event in thing[1:]])


def is_beginning(thing):
    if not isinstance(thing, tuple) or len(thing) != 5 or thing[0] != "market":
        return False
    _, accepts, holding, sizes, goal = thing
    if fault_of_accepts(accepts) is not None or not is_holding(accepts, holding):
        return False
    return is_sizes(sizes) and is_goal(accepts, goal)


def is_goal(accepts, thing):
    return thing is None or is_holding(accepts, thing)
