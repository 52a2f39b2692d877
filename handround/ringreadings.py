"""Strings read as rings, rows, holdings and accepts."""

from handround.errors import InvalidText
from handround.kinds import is_name, is_pair, is_people, is_ring
from handround.ringtexts import NOTHING


def ring_read(text):
    return only_ring_in(text, is_ring)


def row_read(text):
    return () if text == NOTHING else rings_in(text, is_ring)


def holding_read(text):
    holding = ()
    for at, word in enumerate(text.split(" ")):
        pair = pair_of(word)
        if not is_pair(pair) or not may_follow(holding, pair):
            raise InvalidText(0, at)
        holding = (*holding, pair)
    return holding


def may_follow(holding, pair):
    """Whether a holding that begins with these pairs may go on with this one."""
    person, item = pair
    return all([other < person and held != item for other, held in holding])


def accepts_read(text):
    accepts = ()
    for at, line in enumerate(text.split("\n")):
        # No name is below the empty string, so the first line may have any.
        before = accepts[-1][0] if accepts else ""
        accepts = (*accepts, *pairs_in_line(line, at, before))
    return accepts


def pairs_in_line(line, at, before):
    """What the line with this index says of a person, who must be greater than the one before."""
    words = line.split(" ")
    person = words[0]
    if not is_name(person) or person <= before:
        raise InvalidText(at, 0)
    items = items_of_word(words[1]) if len(words) > 1 else ()
    if len(items) == 0:
        raise InvalidText(at, 1)
    if len(words) > 2:
        raise InvalidText(at, 2)
    return [(person, item) for item in items]


def items_of_word(word):
    """The ascending items that the word writes, none if it writes no such."""
    items = tuple(word.split(","))
    # A set of people is of the same kind: an ascending tuple of names.
    return items if is_people(items) else ()


def only_ring_in(text, is_possible):
    """The ring that the text, one word, writes."""
    words = text.split(" ")
    ring = ring_of(words[0])
    if not is_possible(ring):
        raise InvalidText(0, 0)
    if len(words) > 1:
        raise InvalidText(0, 1)
    return ring


def rings_in(text, is_possible):
    """The tuple of the rings that the words of the text write."""
    rings = tuple([ring_of(word) for word in text.split(" ")])
    for at, ring in enumerate(rings):
        if not is_possible(ring):
            raise InvalidText(0, at)
    return rings


def ring_of(word):
    """What the word writes if it writes a ring."""
    return tuple(word.split(">"))


def pair_of(word):
    """What the word writes if it writes a pair."""
    return tuple(word.split(":"))
