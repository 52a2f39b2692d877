"""Markets from their logs."""

from handround.eventkinds import is_whole_log
from handround.watching import Market


def is_log(thing):
    return is_whole_log(thing)


def replayed(log):
    return Market.from_log(log)
