"""Events, logs and their parts as strings."""

from handround.ringtexts import NOTHING, pair_text, ring_text


def event_line(event):
    return " ".join([event[0]] + words_after(event))


def words_after(event):
    word, value = event[0], event[1]
    if word == "trade":
        return [ring_text(value)]
    if word == "accept" or word == "refuse":
        return [pair_text(value)]
    if word == "goal":
        return [goal_word(value)]
    if word == "sizes":
        return [sizes_word(value)]
    return list(event[1:])


def log_lines(log):
    return [beginning_line(log[0])] + [event_line(event) for event in log[1:]]


def beginning_line(beginning):
    word, accepts, holding, sizes, goal = beginning
    return " ".join([word, sizes_word(sizes), goal_word(goal), pairs_word(holding), pairs_word(accepts)])


def pairs_word(pairs):
    return ",".join([pair_text(pair) for pair in pairs])


def goal_word(goal):
    return NOTHING if goal is None else pairs_word(goal)


def sizes_word(sizes):
    return ",".join([str(size) for size in sizes]) or NOTHING
