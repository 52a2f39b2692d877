"""[5], [8], [39]: efforts and detours."""

import random
import unittest

from handround.efforts import least_detour, least_effort, parity_of
from tests.calls import asked, returns
from tests.papermodel import ALL_SIZES, cases, efforts
from tests.samples import (
    BOTH, FIRST, FIRST_HELPED, HELPED, HUGE, LAST, LAST_HELPED, MORE, PEOPLE, SAME, THREE, after_rings, all_accepts,
    all_holdings, all_rows, circle, full, needed_between, plain, some_accepts, turned,
)


class EffortTests(unittest.TestCase):
    def check(self, accepts, begin, goal, sizes, effort):
        """That the least effort is this one, in all ways to ask for it and for the detour."""
        given = {"accepts": accepts, "begin": begin, "goal": goal}
        detour = None if effort is None else effort - needed_between(begin, goal)
        self.assertEqual(asked(self, least_effort, given, sizes=sizes), returns(effort))
        self.assertEqual(asked(self, least_detour, given, sizes=sizes), returns(detour))
        parity = asked(self, parity_of, {"begin": begin, "goal": goal})
        self.assertEqual(parity, returns(needed_between(begin, goal) % 2))

    def test_examples(self):
        self.assertEqual(least_effort(THREE, FIRST, LAST, sizes=(2, 3)), 2)
        self.check(THREE, FIRST, LAST, (2, 3), 2)
        self.check(THREE, FIRST, LAST, (2,), None)
        self.check(MORE, FIRST, LAST, (2,), 2)
        self.assertEqual(parity_of(FIRST, LAST), 0)

    def test_against_all_efforts_from_holding_to_holding(self):
        for accepts in all_accepts():
            holdings = all_holdings(accepts)
            for sizes in ALL_SIZES:
                for begin in holdings[:2]:
                    known = efforts(accepts, begin, sizes)
                    for goal in holdings[:8]:
                        self.check(accepts, begin, goal, sizes, known.get(goal))

    def test_against_all_rows(self):
        for accepts in (MORE, BOTH, full(3), circle(3)):
            holdings = all_holdings(accepts)
            for goal in holdings:
                for sizes in ((2,), (3,), (2, 3)):
                    rows = all_rows(accepts, holdings[0], goal, 4, sizes)
                    least = min((sum(len(ring) - 1 for ring in row) for row in rows), default=None)
                    self.check(accepts, holdings[0], goal, sizes, least)

    def test_equal_holdings(self):
        for accepts, begin, goal in cases():
            self.check(accepts, begin, begin, (2, 3), 0)
            self.check(accepts, goal, goal, (), 0)

    def test_detours(self):
        self.check(HELPED, FIRST_HELPED, LAST_HELPED, (2,), 4)
        self.check(HELPED, FIRST_HELPED, LAST_HELPED, (2, 3), 2)
        swaps = after_rings(4, ("ann", "bob"), ("cy", "dan"))
        self.check(full(4), plain(4), swaps, (3,), 4)
        self.check(full(4), plain(4), swaps, (2, 3), 2)
        self.check(full(4), plain(4), after_rings(4, PEOPLE[:4]), (3,), None)

    def test_sizes_between_which_some_are_missing(self):
        found = 0
        for accepts in [some_accepts(seed, 5, 14) for seed in range(6)]:
            holdings = all_holdings(accepts)
            known = efforts(accepts, holdings[0], (2, 4))
            for goal in holdings[::5]:
                self.check(accepts, holdings[0], goal, (2, 4), known.get(goal))
                found += known.get(goal) is not None
        self.assertGreater(found, 10)

    def test_six_people(self):
        chance = random.Random(3)
        for seed in range(5):
            accepts = some_accepts(seed, 6, 9)
            holdings = all_holdings(accepts)
            for sizes in ((2,), (3,), (2, 3), (2, 4, 6)):
                begin = chance.choice(holdings)
                known = efforts(accepts, begin, sizes)
                for goal in holdings[::3]:
                    self.check(accepts, begin, goal, sizes, known.get(goal))
        self.check(full(6), plain(6), turned(6), (2,), 5)
        self.check(full(6), plain(6), turned(6), (6,), 5)
        self.check(full(6), plain(6), after_rings(6, ("ann", "bob")), (2, 3), 1)

    def test_one_two_and_three_rings_of_six_people(self):
        ann, bob, cy, dan, eve, fay = PEOPLE[:6]
        for rings, needed in ((((ann, fay), (bob, eve), (cy, dan)), 3), (((ann, cy, eve), (bob, fay, dan)), 4),
                              ((PEOPLE[:6],), 5), (((ann, dan), (bob, cy, fay, eve)), 4), ((), 0)):
            goal = after_rings(6, *rings)
            self.assertEqual(parity_of(plain(6), goal), needed % 2)
            self.assertEqual(least_effort(full(6), plain(6), goal), needed)
            self.assertEqual(least_detour(full(6), plain(6), goal), 0)
            self.assertIs(least_detour(full(6), plain(6), goal, sizes=(3,)) is None, needed % 2 == 1)

    def test_no_sizes_and_sizes_above_the_number_of_people(self):
        for sizes in ((), (4,), (5, 8), (HUGE,)):
            self.check(full(3), FIRST, LAST, sizes, None)
        self.check(THREE, FIRST, LAST, (3, 4, HUGE), 2)

    def test_parity(self):
        for many in range(2, 9):
            self.assertEqual(asked(self, parity_of, {"begin": plain(many), "goal": turned(many)}),
                             returns((many - 1) % 2))
        self.assertIs(type(parity_of(FIRST, FIRST)), int)
        begin, goal = all_holdings(SAME)
        self.assertEqual(parity_of(begin, goal), 1)

    def test_sizes_by_name_only(self):
        for function in (least_effort, least_detour):
            with self.assertRaises(TypeError):
                function(MORE, FIRST, LAST, (2,))


class GuaranteeTests(unittest.TestCase):
    def test_odd_sizes_never_lead_where_needed_is_odd(self):
        for accepts in (full(4), full(5), some_accepts(1, 5, 20)):
            holdings = all_holdings(accepts)
            for goal in holdings[::3]:
                if parity_of(holdings[0], goal) == 1:
                    self.assertIsNone(least_effort(accepts, holdings[0], goal, sizes=(3, 5)))

    def test_detours_are_even(self):
        for accepts in all_accepts():
            holdings = all_holdings(accepts)
            for goal in holdings:
                for sizes in ((2,), (3,), (4,), (2, 4)):
                    self.assertIn((least_detour(accepts, holdings[0], goal, sizes=sizes) or 0) % 2, (0,))

    def test_more_acceptances_and_more_sizes(self):
        for seed in range(6):
            accepts = some_accepts(seed, 4, 6)
            more = tuple(sorted(set(accepts) | set(some_accepts(seed, 4, 20))))
            holdings = all_holdings(accepts)
            for goal in holdings:
                for sizes in ((2,), (3,)):
                    least = least_effort(accepts, holdings[0], goal, sizes=sizes)
                    if least is not None:
                        self.assertLessEqual(least_effort(more, holdings[0], goal, sizes=sizes), least)
                        self.assertLessEqual(least_effort(accepts, holdings[0], goal, sizes=(2, 3, 4)), least)
