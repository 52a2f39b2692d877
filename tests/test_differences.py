"""[5], [8], [20], [29]: the difference of two holdings, and needed."""

import unittest
from itertools import permutations

from handround.differences import difference, needed
from handround.trades import after_row
from tests.calls import asked, returns
from tests.samples import (
    FIRST, ITEMS, LAST, PEOPLE, SAME, THREE, after_rings, all_accepts, all_holdings, full, needed_between,
    plain, rings_between, turned,
)

SIX = plain(6)


class DifferenceTests(unittest.TestCase):
    def check(self, begin, goal, rings):
        """That the difference consists of these rings, in all ways to ask."""
        self.assertEqual(asked(self, difference, {"begin": begin, "goal": goal}), returns(rings))
        many = sum(len(ring) for ring in rings) - len(rings)
        self.assertEqual(asked(self, needed, {"begin": begin, "goal": goal}), returns(many))

    def test_examples(self):
        self.check(FIRST, LAST, (("ann", "cy", "bob"),))
        self.check(LAST, FIRST, (("ann", "bob", "cy"),))

    def test_equal_holdings(self):
        for holding in (FIRST, LAST, SIX, turned(8)):
            self.check(holding, holding, ())

    def test_against_the_words(self):
        for accepts in all_accepts():
            holdings = all_holdings(accepts)
            for begin in holdings[:5]:
                for goal in holdings:
                    self.check(begin, goal, rings_between(begin, goal))
                    self.assertEqual(needed(begin, goal), needed_between(begin, goal))

    def test_one_two_and_three_rings_of_six_people(self):
        ann, bob, cy, dan, eve, fay = PEOPLE[:6]
        for rings in (
            ((ann, bob, cy, dan, eve, fay),), ((ann, fay, bob, eve, cy, dan),),
            ((ann, cy, eve), (bob, dan, fay)), ((ann, eve, cy), (bob, dan, fay)), ((ann, bob, fay), (cy, eve, dan)),
            ((ann, fay), (bob, dan, cy, eve)), ((ann, dan, fay, cy), (bob, eve)), ((bob, fay), (cy, eve)),
            ((ann, fay), (bob, eve), (cy, dan)), ((ann, dan), (bob, fay), (cy, eve)), ((eve, fay),),
        ):
            self.check(SIX, after_rings(6, *rings), rings)
            self.check(after_rings(6, *rings), SIX, tuple(ring[:1] + ring[:0:-1] for ring in rings))

    def test_all_holdings_of_five_people(self):
        for items in permutations(ITEMS[:5]):
            goal = tuple(zip(PEOPLE, items))
            self.check(plain(5), goal, rings_between(plain(5), goal))
            self.check(goal, turned(5), rings_between(goal, turned(5)))

    def test_eight_people(self):
        self.check(plain(8), turned(8), (PEOPLE[:1] + PEOPLE[:0:-1],))
        self.check(turned(8), plain(8), (PEOPLE,))

    def test_same_names(self):
        self.check((("a", "a"), ("abcdefgh", "abcdefgh")), (("a", "abcdefgh"), ("abcdefgh", "a")),
                   (("a", "abcdefgh"),))
        self.assertEqual(len(all_holdings(SAME)), 2)

    def test_what_is_accepted_does_not_matter(self):
        # THREE has only the holdings FIRST and LAST.
        self.assertNotIn(("ann", "den"), THREE)
        self.check(FIRST, (("ann", "den"), ("bob", "cot"), ("cy", "bed")), (("ann", "cy"),))

    def test_one_trade_for_each_ring_leads_to_the_goal(self):
        for accepts in all_accepts() + [full(5)]:
            holdings = all_holdings(accepts)
            for begin in holdings[:3]:
                for goal in holdings:
                    rings = difference(begin, goal)
                    self.assertEqual(after_row(accepts, begin, *rings), goal)
                    self.assertEqual(after_row(accepts, begin, *rings[::-1]), goal)
                    self.assertEqual(rings, tuple(sorted(rings)))
                    names = [name for ring in rings for name in ring]
                    self.assertEqual(sorted(names), [name for name, item in begin if (name, item) not in goal])

    def test_kinds(self):
        found = difference(SIX, turned(6))
        self.assertIs(type(found), tuple)
        self.assertTrue(all(type(ring) is tuple for ring in found))
        self.assertIs(type(needed(SIX, SIX)), int)
