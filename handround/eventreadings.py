"""Strings read as events and as logs."""

from handround.errors import InvalidText
from handround.kinds import is_name, is_pair, is_ring, is_sizes
from handround.ringreadings import pair_of, ring_of
from handround.ringtexts import NOTHING

BEGINNING = "market"
BEGINNING_FORMS = ("sizes", "goal", "pairs", "pairs")
EVENT_FORMS = {
    "trade": ("ring",),
    "accept": ("pair",),
    "refuse": ("pair",),
    "goal": ("goal",),
    "sizes": ("sizes",),
    "enter": ("name", "name"),
    "leave": ("name",),
}
DIGITS = "0123456789"
MOST_DIGITS = 60


def read_event(text):
    return event_in(text, 0)


def read_log(lines):
    if len(lines) == 0:
        raise InvalidText(0, 0)
    beginning = beginning_in(lines[0])
    events = [event_in(line, at) for at, line in enumerate(lines[1:], start=1)]
    return (beginning, *events)


def event_in(text, line):
    words = text.split(" ")
    if words[0] not in EVENT_FORMS:
        raise InvalidText(line, 0)
    values = values_in(words, EVENT_FORMS[words[0]], line)
    return (words[0], *values)


def beginning_in(text):
    words = text.split(" ")
    if words[0] != BEGINNING:
        raise InvalidText(0, 0)
    sizes, goal, holding, accepts = values_in(words, BEGINNING_FORMS, 0)
    return (BEGINNING, accepts, holding, sizes, goal)


def values_in(words, forms, line):
    """What the words after the first one write, each of the form that stands at its place."""
    values = []
    for at, form in enumerate(forms, start=1):
        found = found_in(words[at], form) if at < len(words) else []
        if not found:
            raise InvalidText(line, at)
        values.extend(found)
    if len(words) > len(forms) + 1:
        raise InvalidText(line, len(forms) + 1)
    return values


def found_in(word, form):
    """A list of the value that the word writes, empty if it writes none; None is a value here."""
    if form == "name":
        return [word] if is_name(word) else []
    if form == "pair":
        return pair_in(word)
    if form == "ring":
        ring = ring_of(word)
        return [ring] if is_ring(ring) else []
    if form == "sizes":
        return sizes_in(word)
    if form == "goal" and word == NOTHING:
        return [None]
    return pairs_in(word)


def pair_in(word):
    pair = pair_of(word)
    return [pair] if is_pair(pair) else []


def pairs_in(word):
    found = [pair_in(part) for part in word.split(",")]
    return [tuple([pairs[0] for pairs in found])] if all(found) else []


def sizes_in(word):
    if word == NOTHING:
        return [()]
    parts = word.split(",")
    if not all([is_size_word(part) for part in parts]):
        return []
    sizes = tuple([int(part) for part in parts])
    return [sizes] if is_sizes(sizes) else []


def is_size_word(word):
    # No size is 0, so a 0 ahead is always a leading one.
    if word == "" or word[0] == "0" or len(word) > MOST_DIGITS:
        return False
    # Python reads more than digits as an int: signs, spaces, digits of other scripts.
    return all([digit in DIGITS for digit in word])
