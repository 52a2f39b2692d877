"""Handings: trades as objects that can be multiplied, reversed, compared and called."""

from handround.differences import difference
from handround.errors import InvalidTrade, UnknownPerson
from handround.kinds import is_number, is_round
from handround.orders import ascending
from handround.ringreadings import only_ring_in, rings_in
from handround.ringtexts import NOTHING, row_text
from handround.trades import effort_of, moved


class Handing:
    """It moves items, whatever is accepted. It keeps the rings of its effect, which have no common people."""

    MOST = 8

    def __init__(self, *rings):
        for ring in rings:
            if not is_round(ring):
                raise InvalidTrade(ring, "shape")
        for ring in rings:
            if len(ring) > self.MOST:
                raise InvalidTrade(ring, "many")
        self._rings = rings_after_all(rings)

    @staticmethod
    def between(begin, goal):
        return handing_of(difference(begin, goal))

    @classmethod
    def read(cls, text):
        rings = words_of(text)
        return cls(*rings)

    @property
    def rings(self):
        return self._rings

    @property
    def people(self):
        return people_in(self._rings)

    @property
    def effort(self):
        return effort_of(self._rings)

    @property
    def parity(self):
        return effort_of(self._rings) % 2

    @property
    def detour(self):
        # Only rows go another way than that of the effect.
        return 0

    def __mul__(self, other):
        if not isinstance(other, Handing):
            return NotImplemented
        return handing_of(rings_after_all([*self._rings, *other._rings]))

    def __neg__(self):
        return handing_of(tuple([backwards(ring) for ring in self._rings]))

    def __pow__(self, other):
        if not is_number(other):
            return NotImplemented
        return handing_of(rings_often(self._rings, other))

    def __eq__(self, other):
        return isinstance(other, Handing) and self._rings == other._rings

    # Python takes a > b as b < a, and a >= b as b <= a.
    def __lt__(self, other):
        if not isinstance(other, Handing):
            return NotImplemented
        return (len(self.people), self._rings) < (len(other.people), other._rings)

    def __le__(self, other):
        if not isinstance(other, Handing):
            return NotImplemented
        return (len(self.people), self._rings) <= (len(other.people), other._rings)

    def __contains__(self, person):
        return person in self.people

    def __getitem__(self, person):
        for ring in self._rings:
            if person in ring:
                return follower(ring, person)
        return person

    def __iter__(self):
        raise TypeError("a handing is not iterated over")

    def __len__(self):
        return len(self.people)

    def __bool__(self):
        return bool(self._rings)

    def __call__(self, holding):
        holders = [person for person, _ in holding]
        for person in self.people:
            if person not in holders:
                raise UnknownPerson(person)
        after = holding
        for ring in self._rings:
            after = moved(after, ring)
        return after

    def powers(self):
        power = handing_of(self._rings)
        yield power
        while power:
            power = power * self
            yield power

    def __str__(self):
        return str(row_text(self._rings))


class Ring(Handing):
    """One ring trade."""

    def __init__(self, *people):
        Handing.__init__(self, people)

    @classmethod
    def read(cls, text):
        people = only_ring_in(text, is_round)
        return cls(*people)


class Swap(Ring):
    """The ring trade of two people."""

    def __init__(self, one, other):
        Ring.__init__(self, one, other)


class Still(Handing):
    """Nobody moves."""

    def __init__(self):
        Handing.__init__(self)


class Row(Handing):
    """Handings, one after the other. Its effort is that of the way, not that of the effect."""

    def __init__(self, *handings):
        for thing in handings:
            if not isinstance(thing, Handing):
                raise InvalidTrade(thing, "shape")
        self._rings = rings_after_all([ring for part in handings for ring in part.rings])
        self._effort = sum([part.effort for part in handings])
        self._parts = handings

    @classmethod
    def read(cls, text):
        parts = [Ring(*people) for people in words_of(text)]
        return cls(*parts)

    @property
    def parts(self):
        return self._parts

    @property
    def effort(self):
        return self._effort

    @property
    def detour(self):
        return self.effort - effort_of(self._rings)

    def __str__(self):
        words = [str(part) for part in self._parts]
        moving = [word for word in words if word != NOTHING]
        return " ".join(moving or [NOTHING])


def handing_of(rings):
    """The handing of the class itself with these rings of its effect, of any size."""
    made = Handing()
    made._rings = rings
    return made


def words_of(text):
    """The rings, begun with anybody, that the text writes."""
    return () if text == NOTHING else rings_in(text, is_round)


def rings_after_all(rings):
    """The rings of the effect of these rings, one after the other."""
    # Everybody holds an item of the own name, so each item tells where it comes from.
    begin = [(person, person) for person in people_in(rings)]
    after = begin
    for ring in rings:
        after = moved(after, ring)
    return difference(begin, after)


def rings_often(rings, times):
    """The rings of the effect of these rings, which have no common people, so many times."""
    begin = [(person, person) for person in people_in(rings)]
    # The number may be too great to go round so often.
    after = [(ring[(at + times) % len(ring)], person) for ring in rings for at, person in enumerate(ring)]
    return difference(begin, after)


def people_in(rings):
    return ascending([person for ring in rings for person in ring])


def backwards(ring):
    return ring[:1] + ring[:0:-1]


def follower(ring, person):
    at = ring.index(person) + 1
    return ring[at] if at < len(ring) else ring[0]
