"""What events make of a market: its state is (accepts, holding, sizes, goal)."""

from handround.errors import InvalidEvent
from handround.eventkinds import is_goal
from handround.holdings import items_of, people_of
from handround.orders import ascending
from handround.trades import bar_of, moved


def state_after(state, event):
    """The state after an event by kind."""
    reason = bar_of_event(state, event)
    if reason is not None:
        raise InvalidEvent(event, reason)
    accepts, holding, sizes, goal = state
    word, value = event[0], event[1]
    if word == "trade":
        return (accepts, moved(holding, value), sizes, goal)
    if word == "accept":
        return (with_pair(accepts, value), holding, sizes, goal)
    if word == "refuse":
        return (without_pair(accepts, value), holding, sizes, goal)
    if word == "goal":
        return (accepts, holding, sizes, value)
    if word == "sizes":
        return (accepts, holding, value, goal)
    if word == "enter":
        return (with_pair(accepts, event[1:]), with_pair(holding, event[1:]), sizes, None)
    return state_without(state, value)


def bar_of_event(state, event):
    """Why an event by kind is not applied, or None."""
    word, value = event[0], event[1]
    if word == "trade":
        return bar_of_trade(state, value)
    if word == "accept":
        return bar_of_accept(state, value)
    if word == "refuse":
        return bar_of_refuse(state, value)
    if word == "goal":
        return None if is_goal(state[0], value) else "goal"
    if word == "enter":
        return bar_of_enter(state, value, event[2])
    if word == "leave":
        return bar_of_leave(state, value)
    return None


def bar_of_trade(state, ring):
    accepts, holding, sizes, _ = state
    reason = bar_of(accepts, holding, ring)
    # The size comes between the two reasons that a ring has without sizes.
    if reason != "person" and len(ring) not in sizes:
        return "size"
    return reason


def bar_of_accept(state, pair):
    accepts = state[0]
    person, item = pair
    if person not in people_of(accepts):
        return "person"
    if item not in items_of(accepts):
        return "item"
    return "again" if pair in accepts else None


def bar_of_refuse(state, pair):
    accepts, holding, _, goal = state
    if pair not in accepts:
        return "pair"
    if pair in holding:
        return "held"
    return "goal" if goal is not None and pair in goal else None


def bar_of_enter(state, person, item):
    accepts = state[0]
    if person in people_of(accepts):
        return "person"
    return "item" if item in items_of(accepts) else None


def bar_of_leave(state, person):
    people = people_of(state[0])
    if person not in people:
        return "person"
    return "few" if len(people) == 2 else None


def with_pair(pairs, pair):
    return ascending([*pairs, pair])


def without_pair(pairs, pair):
    return tuple([other for other in pairs if other != pair])


def state_without(state, person):
    """The state after the person has left, with the item held and all pairs with either."""
    accepts, holding, sizes, _ = state
    gone = dict(holding)[person]
    kept = tuple([pair for pair in accepts if pair[0] != person and pair[1] != gone])
    return (kept, without_pair(holding, (person, gone)), sizes, None)
