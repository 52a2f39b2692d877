"""The live market: it changes by events, which it keeps."""

from handround.errors import InvalidEvent, InvalidGoal, InvalidText, NothingToUndo, UnknownPerson
from handround.eventkinds import is_event, is_goal, is_whole_log
from handround.eventreadings import read_log
from handround.eventtexts import event_line
from handround.holdings import accepted_by, item_of, people_of
from handround.marketstates import state_after
from handround.reaching import distance, least_row
from handround.ringtexts import NOTHING
from handround.trades import trades_in
from handround.widths import width


class Market:
    """People with their items, what they accept, the allowed sizes and a goal."""

    MOST = 60

    def __init__(self, accepts, holding, *, sizes=(2,), goal=None):
        self._begin = (accepts, holding, sizes, goal)
        self._events = []
        # A state more than events: each one is taken back by dropping the last of both.
        self._states = [(accepts, holding, sizes, goal)]
        self._started = 0
        self._finished = 0

    @classmethod
    def read(cls, text):
        log = read_log(text.split("\n"))
        if not is_whole_log(log):
            raise InvalidText(0, 0)
        return cls.from_log(log)

    @classmethod
    def from_log(cls, log):
        """A new market after the events of the log; none of them counts as an operation."""
        beginning, *events = log
        _, accepts, holding, sizes, goal = beginning
        market = cls(accepts, holding, sizes=sizes, goal=goal)
        market._step_all(events)
        return market

    @property
    def accepts(self):
        return self._states[-1][0]

    @property
    def holding(self):
        return self._states[-1][1]

    @property
    def sizes(self):
        return self._states[-1][2]

    @property
    def goal(self):
        return self._states[-1][3]

    @goal.setter
    def goal(self, value):
        self._started += 1
        try:
            self._aim(value)
        finally:
            self._finished = self._started

    @property
    def distance_to_goal(self):
        accepts, holding, sizes, goal = self._states[-1]
        return None if goal is None else distance(accepts, holding, goal, sizes=sizes)

    @property
    def width_to_goal(self):
        accepts, holding, _, goal = self._states[-1]
        return None if goal is None else width(accepts, holding, goal)

    def set_goal(self, value):
        # The assignment counts; this call is the same operation.
        self.goal = value
        return self.goal

    def set_sizes(self, value):
        self._operate(("sizes", value))
        return self.sizes

    def trade(self, ring):
        return self._operate(("trade", ring))

    def accept(self, pair):
        return self._operate(("accept", pair))

    def refuse(self, pair):
        return self._operate(("refuse", pair))

    def enter(self, person, item):
        return self._operate(("enter", person, item))

    def leave(self, person):
        return self._operate(("leave", person))

    def go(self, event):
        return self._operate(event)

    def __call__(self, ring):
        return self.trade(ring)

    def __getitem__(self, person):
        item = item_of(self._states[-1][1], person)
        if item is None:
            raise UnknownPerson(person)
        return item

    def __iter__(self):
        raise TypeError("a market is not iterated over")

    def __contains__(self, person):
        return person in people_of(self._states[-1][0])

    def __len__(self):
        return len(self._events)

    def __eq__(self, other):
        return isinstance(other, Market) and self._begin == other._begin and self._events == other._events

    def __str__(self):
        lines = [event_line(event) for event in self._events]
        return " / ".join(lines or [NOTHING])

    def tried(self, *events):
        state = self._states[-1]
        holdings = []
        for event in events:
            state = self._state_after(state, len(self._events) + len(holdings), event)
            holdings.append(state[1])
        return tuple(holdings)

    def undo(self):
        self._started += 1
        try:
            if len(self._events) == 0:
                raise NothingToUndo(0)
            self._states.pop()
            return self._events.pop()
        finally:
            self._finished = self._started

    def do_all(self, *events, keep=False):
        self._started += 1
        many = len(self._events)
        try:
            self._step_all(events)
        except InvalidEvent:
            if not keep:
                self._cut_back(many)
            raise
        finally:
            self._finished = self._started
        return len(events)

    def counts(self):
        return (self._started, self._finished)

    def advice(self):
        accepts, holding, sizes, goal = self._states[-1]
        if goal is None:
            return None
        row = least_row(accepts, holding, goal, sizes=sizes)
        return row[0] if row else None

    def trades(self):
        accepts, holding, sizes, _ = self._states[-1]
        yield from trades_in(accepts, holding, sizes=sizes)

    def table(self):
        return [self._table_row(person, item) for person, item in self._states[-1][1]]

    def log(self):
        begin = self._begin
        events = self._events
        return (("market", *begin), *events)

    def _operate(self, event):
        self._started += 1
        try:
            self._step(event)
        finally:
            self._finished = self._started
        return self._states[-1][1]

    def _aim(self, value):
        if not is_goal(self._states[-1][0], value):
            raise InvalidGoal(value)
        self._step(("goal", value))

    def _step(self, event):
        state = self._state_after(self._states[-1], len(self._events), event)
        self._states.append(state)
        self._events.append(event)

    def _step_all(self, events):
        for event in events:
            self._step(event)

    def _cut_back(self, many):
        del self._events[many:]
        del self._states[many + 1:]

    def _state_after(self, state, many, event):
        """The state after any value as an event that follows so many events."""
        if not is_event(event):
            raise InvalidEvent(event, "shape")
        if many >= self.MOST:
            raise InvalidEvent(event, "full")
        return state_after(state, event)

    def _table_row(self, person, item):
        accepts, _, _, goal = self._states[-1]
        many = len(accepted_by(accepts, person))
        mark = " " if goal is None or item_of(goal, person) == item else "*"
        return f"{person:<8} {item:<8} {many:>3} {mark}"
