"""[2], [6], [32], [33]: shortcuts."""

import random
import unittest

from handround.errors import InvalidTrade
from handround.shortcuts import shortcuts_of, split
from handround.trades import after_row
from tests.calls import asked, raises, returns
from tests.papermodel import shortcuts_by_words, split_by_words
from tests.samples import (
    BOTH, FIRST, HELPED, FIRST_HELPED, LAST, MORE, PEOPLE, THREE, all_accepts, all_holdings, all_rings, all_steps,
    circle, full, handed, plain, some_accepts,
)

TURN = ("ann", "cy", "bob")
# The ring in which everybody gets the item of the next one, as in turned of samples.
WHOLE = PEOPLE[:1] + PEOPLE[:0:-1]


def with_more(many, seed, extra):
    """Accepts of so many people in which the ring of all is possible in the plain holding, and so many pairs more."""
    every = [pair for pair in full(many) if pair not in circle(many)]
    return tuple(sorted(circle(many) + tuple(random.Random(seed).sample(every, min(extra, len(every))))))


def rings_and_holdings():
    """Triples (accepts, holding, ring) of possible rings of two to eight people."""
    found = [(THREE, FIRST, TURN), (MORE, FIRST, TURN), (full(3), LAST, ("ann", "bob", "cy"))]
    for accepts in all_accepts() + [some_accepts(seed, 5, 12) for seed in range(4)]:
        for holding in all_holdings(accepts)[:4]:
            found.extend((accepts, holding, ring) for ring, after in all_steps(accepts, holding, (2, 3, 4, 5))[:25])
    for many in range(3, 9):
        ring = PEOPLE[:1] + PEOPLE[many - 1:0:-1]
        for extra in (0, 1, 3, many, 60):
            found.append((with_more(many, extra, extra), plain(many), ring))
    return found


def bars():
    """Pairs of (accepts, holding, ring) of rings that are not possible and the reason."""
    return [
        ((THREE, FIRST, ("ann", "bob")), "accept"), ((THREE, FIRST, ("ann", "bob", "cy")), "accept"),
        ((THREE, FIRST, ("ann", "zoe")), "person"), ((THREE, FIRST, ("ann", "bob", "zoe")), "person"),
        ((MORE, FIRST, ("ann", "cy")), "accept"), ((MORE, LAST, TURN), "accept"),
        ((THREE, FIRST, ("yan", "zoe")), "person"),
        ((THREE, FIRST, PEOPLE), "person"), ((full(3), FIRST, ("ann", "bob", "cy", "dan")), "person"),
        ((circle(8), plain(8), PEOPLE), "accept"), ((THREE, FIRST, ("bed", "cot")), "person"),
    ]


class ShortcutTests(unittest.TestCase):
    def check(self, accepts, holding, ring):
        expected = shortcuts_by_words(accepts, holding, ring)
        given = {"accepts": accepts, "holding": holding, "ring": ring}
        self.assertEqual(asked(self, shortcuts_of, given), returns(expected), given)
        return expected

    def test_by_hand(self):
        self.assertEqual(self.check(MORE, FIRST, TURN), (("cy", "cot"),))
        self.assertEqual(self.check(THREE, FIRST, TURN), ())
        self.assertEqual(self.check(full(3), FIRST, TURN), (("ann", "den"), ("bob", "bed"), ("cy", "cot")))
        # dan is not in the ring, so neither he nor what he holds makes one.
        self.assertEqual(self.check(HELPED, FIRST_HELPED, TURN), ())

    def test_against_each_pair(self):
        many = 0
        for accepts, holding, ring in rings_and_holdings():
            found = self.check(accepts, holding, ring)
            self.assertEqual(found, tuple(sorted(set(found))))
            many += len(found) > 2
        self.assertGreater(many, 20)

    def test_rings_of_two_have_none(self):
        for accepts in all_accepts():
            for holding in all_holdings(accepts)[:5]:
                for ring, after in all_steps(accepts, holding, (2,)):
                    self.assertEqual(self.check(accepts, holding, ring), ())
        self.assertEqual(self.check(BOTH, BOTH[::3], ("ann", "bob")), ())

    def test_eight_people(self):
        self.assertEqual(self.check(circle(8), plain(8), WHOLE), ())
        self.assertEqual(len(self.check(full(8), plain(8), WHOLE)), 48)
        self.assertEqual(len(self.check(full(8), plain(8), PEOPLE)), 48)
        self.assertEqual(len(self.check(full(8), plain(8), PEOPLE[2:6])), 8)

    def test_rings_that_are_not_possible(self):
        for given, reason in bars():
            found = asked(self, shortcuts_of, dict(zip(("accepts", "holding", "ring"), given)))
            self.assertEqual(found, raises(InvalidTrade, given[2], reason))

    def test_the_very_object(self):
        ring = ("ann", "bob")
        with self.assertRaises(InvalidTrade) as caught:
            shortcuts_of(THREE, FIRST, ring)
        self.assertIs(caught.exception.ring, ring)


class SplitTests(unittest.TestCase):
    def check(self, accepts, holding, ring, shortcut):
        expected = split_by_words(holding, ring, shortcut)
        given = {"accepts": accepts, "holding": holding, "ring": ring, "shortcut": shortcut}
        self.assertEqual(asked(self, split, given), returns(expected), given)
        return expected

    def test_by_hand(self):
        self.assertEqual(self.check(MORE, FIRST, TURN, ("cy", "cot")), (("bob", "cy"), ("ann", "cy")))
        self.assertEqual(self.check(full(3), FIRST, TURN, ("ann", "den")), (("ann", "cy"), ("ann", "bob")))
        self.assertEqual(self.check(full(3), FIRST, TURN, ("bob", "bed")), (("ann", "bob"), ("bob", "cy")))
        found = self.check(full(5), plain(5), PEOPLE[:5], ("dan", "cot"))
        self.assertEqual(found, (("ann", "bob", "dan", "eve"), ("cy", "dan")))
        found = self.check(full(5), plain(5), PEOPLE[:5], ("bob", "elm"))
        self.assertEqual(found, (("bob", "cy", "dan"), ("ann", "bob", "eve")))

    def test_both_rings_do_what_the_ring_does(self):
        many = 0
        for accepts, holding, ring in rings_and_holdings():
            for pair in shortcuts_by_words(accepts, holding, ring):
                first, rest = self.check(accepts, holding, ring, pair)
                after = tuple(sorted(handed(holding, ring).items()))
                self.assertEqual(after_row(accepts, holding, first, rest), after)
                self.assertEqual(len(first) + len(rest), len(ring) + 1)
                self.assertLess(max(len(first), len(rest)), len(ring))
                self.assertEqual((first[0], rest[0]), (min(first), min(rest)))
                self.assertEqual(dict(after_row(accepts, holding, first))[pair[0]], pair[1])
                self.assertEqual(set(first) & set(rest), {pair[0]})
                many += 1
        self.assertGreater(many, 200)

    def test_no_shortcut(self):
        for pair in (("ann", "cot"), ("ann", "bed"), ("cy", "bed"), ("cy", "den"), ("bob", "den"), ("ann", "den"),
                     ("bob", "bed"), ("zoe", "bed"), ("cy", "zip"), ("zoe", "zip"), ("cot", "cy")):
            given = {"accepts": MORE, "holding": FIRST, "ring": TURN, "shortcut": pair}
            self.assertEqual(asked(self, split, given), raises(InvalidTrade, TURN, "shortcut"))
        for accepts, holding, ring in rings_and_holdings()[::7]:
            known = shortcuts_by_words(accepts, holding, ring)
            for person in [*PEOPLE[:5], "zoe"]:
                for item in ("bed", "cot", "den", "elm", "zip"):
                    if (person, item) not in known:
                        given = {"accepts": accepts, "holding": holding, "ring": ring, "shortcut": (person, item)}
                        self.assertEqual(asked(self, split, given), raises(InvalidTrade, ring, "shortcut"))

    def test_somebody_who_is_not_in_the_ring(self):
        for pair in (("dan", "bed"), ("dan", "den"), ("ann", "elm"), ("dan", "elm")):
            given = {"accepts": HELPED, "holding": FIRST_HELPED, "ring": TURN, "shortcut": pair}
            self.assertEqual(asked(self, split, given), raises(InvalidTrade, TURN, "shortcut"))

    def test_a_ring_that_is_not_possible_comes_first(self):
        for given, reason in bars():
            for pair in (("ann", "bed"), ("cy", "cot"), ("zoe", "zip"), ("ann", "den")):
                named = dict(zip(("accepts", "holding", "ring", "shortcut"), (*given, pair)))
                self.assertEqual(asked(self, split, named), raises(InvalidTrade, given[2], reason))

    def test_the_very_object(self):
        ring = ("ann", "cy", "bob")
        with self.assertRaises(InvalidTrade) as caught:
            split(MORE, FIRST, ring, ("ann", "cot"))
        self.assertIs(caught.exception.ring, ring)

    def test_eight_people(self):
        for ring in (WHOLE, PEOPLE, all_rings(PEOPLE[:5], (5,))[7] + PEOPLE[5:]):
            for pair in shortcuts_by_words(full(8), plain(8), ring):
                self.check(full(8), plain(8), ring, pair)
