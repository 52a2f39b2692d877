"""A desk: it answers rows of text about a market."""

from handround.errors import InvalidRow, InvalidText
from handround.eventkinds import is_whole_log
from handround.eventreadings import BEGINNING, read_event, read_log
from handround.eventtexts import event_line, goal_word, pairs_word, sizes_word
from handround.ringtexts import ring_text, row_text
from handround.watching import Market

NO_ANSWER = "none"


class Desk:
    """It has a market, at first none."""

    def __init__(self):
        self._market = None
        self._started = 0
        self._finished = 0

    def say(self, row):
        self._started += 1
        try:
            return self._answer(row)
        finally:
            self._finished = self._started

    def counts(self):
        return (self._started, self._finished)

    def _answer(self, row):
        if row.split(" ")[0] == BEGINNING:
            self._market = Market.from_log(log_in(row))
            return "ok"
        market = self._market
        if market is None:
            raise InvalidRow(row)
        if row == "undo":
            return event_line(market.undo())
        answer = told_of(market, row)
        if answer is None:
            return pairs_word(market.go(event_in(row)))
        return answer


def log_in(row):
    """The log without events that the row writes."""
    try:
        log = read_log([row])
    except InvalidText:
        raise InvalidRow(row) from None
    if not is_whole_log(log):
        raise InvalidRow(row)
    return log


def event_in(row):
    try:
        return read_event(row)
    except InvalidText:
        raise InvalidRow(row) from None


def told_of(market, row):
    """What the row asks of the market, which stays as it is, or None if it is no such question."""
    if row == "count":
        return str(len(market))
    if row == "log":
        return str(market)
    if row == "holding":
        return pairs_word(market.holding)
    if row == "goal":
        return goal_word(market.goal)
    if row == "sizes":
        return sizes_word(market.sizes)
    if row == "distance":
        return number_word(market.distance_to_goal)
    if row == "width":
        return number_word(market.width_to_goal)
    if row == "trades":
        return row_text(list(market.trades()))
    if row == "advice":
        return advice_word(market.advice())
    if row == "table":
        return "\n".join(market.table())
    return None


def number_word(number):
    return NO_ANSWER if number is None else str(number)


def advice_word(ring):
    return NO_ANSWER if ring is None else ring_text(ring)
