"""Rings, rows, holdings and accepts as strings."""

from handround.holdings import accepted_by, people_of

NOTHING = "-"


def ring_text(ring):
    return ">".join(ring)


def row_text(row):
    return " ".join([ring_text(ring) for ring in row]) or NOTHING


def pair_text(pair):
    return ":".join(pair)


def holding_text(holding):
    return " ".join([pair_text(pair) for pair in holding])


def accepts_text(accepts):
    return "\n".join([accepts_line(accepts, person) for person in people_of(accepts)])


def accepts_line(accepts, person):
    return person + " " + ",".join(accepted_by(accepts, person))
