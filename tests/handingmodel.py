"""Handings by the words of [14] to [17]: what they do to each person, on dicts, and chosen handings."""

from handround.handings import Handing, Ring, Row, Still, Swap
from tests.samples import PEOPLE


class Told:
    """What a handing must be: who gets the item of each person, its effort, its words."""

    def __init__(self, gets, effort=None, words=None):
        self.gets = {person: taker for person, taker in gets.items() if person != taker}
        self.rings = cycles(self.gets)
        self.least = len(self.gets) - len(self.rings)
        self.effort = self.least if effort is None else effort
        self.words = [">".join(ring) for ring in self.rings] if words is None else words

    def key(self):
        return (len(self.gets), self.rings)

    def check(self, test, handing):
        test.assertEqual(handing.rings, self.rings)
        test.assertEqual(handing.people, tuple(sorted(self.gets)))
        test.assertEqual((type(handing.rings), type(handing.people)), (tuple, tuple))
        test.assertEqual(handing.effort, self.effort)
        test.assertEqual(handing.parity, self.least % 2)
        test.assertIs(type(handing.parity), int)
        test.assertEqual(handing.detour, self.effort - self.least)
        test.assertEqual(len(handing), len(self.gets))
        test.assertIs(bool(handing), bool(self.gets))
        test.assertEqual(str(handing), " ".join(self.words) or "-")
        for person in (*PEOPLE, *self.gets, "zoe", "bed"):
            test.assertEqual(handing[person], self.gets.get(person, person))
            test.assertIs(person in handing, person in self.gets)


def cycles(gets):
    found = []
    for person in sorted(gets):
        ring = [person]
        while gets[ring[-1]] != person:
            ring.append(gets[ring[-1]])
        if person == min(ring):
            found.append(tuple(ring))
    return tuple(found)


def one_ring(ring):
    return {person: ring[(at + 1) % len(ring)] for at, person in enumerate(ring)}


def after(one, other):
    """Who gets the item of each person if first the one is done and then the other."""
    return {person: other.get(one.get(person, person), one.get(person, person)) for person in {**one, **other}}


def of_rings(*rings):
    gets = {}
    for ring in rings:
        gets = after(gets, one_ring(ring))
    return Told(gets)


def of_row(*parts):
    gets = {}
    for part in parts:
        gets = after(gets, part.gets)
    return Told(gets, sum(part.effort for part in parts), [word for part in parts for word in part.words])


def product(one, other):
    return Told(after(one.gets, other.gets))


def back(one):
    return Told({taker: person for person, taker in one.gets.items()})


def often(one, times):
    """So many times, by doubling."""
    found = Told({})
    for digit in bin(times)[2:]:
        found = product(found, found)
        if digit == "1":
            found = product(found, one)
    return found


def chosen_ring(chance, names, most):
    return tuple(chance.sample(names, chance.randint(2, min(most, len(names)))))


def chosen(chance, names, depth):
    """A pair of a handing, of any class, and what it must be."""
    way = chance.randrange(8 if depth else 4)
    if way == 0:
        rings = [chosen_ring(chance, names, 8) for _ in range(chance.randrange(4))]
        return (Handing(*rings), of_rings(*rings))
    if way == 1:
        ring = chosen_ring(chance, names, 8)
        return (Ring(*ring), of_rings(ring))
    if way == 2:
        ring = chosen_ring(chance, names, 2)
        return (Swap(*ring), of_rings(ring))
    if way == 3:
        return (Still(), Told({}))
    if way == 4:
        parts = [chosen(chance, names, depth - 1) for _ in range(chance.randrange(5))]
        return (Row(*[handing for handing, told in parts]), of_row(*[told for handing, told in parts]))
    handing, told = chosen(chance, names, depth - 1)
    if way == 5:
        other, other_told = chosen(chance, names, depth - 1)
        return (handing * other, product(told, other_told))
    if way == 6:
        return (-handing, back(told))
    times = chance.choice((0, 1, 2, 3, 5, 12, 10 ** 59 + 7))
    return (handing ** times, often(told, times))
