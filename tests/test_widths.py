"""[5], [8], [25], [29]: the width."""

import unittest

from handround.widths import width
from tests.samples import (
    FIRST, LAST, MORE, THREE, all_accepts, all_holdings, circle, full, least_width, plain, rings_between,
    some_accepts, turned,
)


class WidthTests(unittest.TestCase):
    def test_examples(self):
        self.assertEqual([width(THREE, FIRST, LAST), width(MORE, FIRST, LAST)], [3, 2])
        self.assertEqual(width(accepts=THREE, begin=FIRST, goal=LAST), 3)

    def test_equal_holdings(self):
        self.assertEqual(width(THREE, FIRST, FIRST), 1)
        self.assertEqual(width(full(6), plain(6), plain(6)), 1)

    def test_against_a_direct_search(self):
        for accepts in all_accepts():
            for begin in all_holdings(accepts)[:3]:
                for goal in all_holdings(accepts):
                    self.assertEqual(width(accepts, begin, goal), least_width(accepts, begin, goal))

    def test_up_to_eight_people(self):
        for many in range(2, 9):
            self.assertEqual(width(circle(many), plain(many), turned(many)), many)
        for seed in range(6):
            accepts = some_accepts(seed, 6, 7)
            holdings = all_holdings(accepts)
            for goal in holdings[::3]:
                self.assertEqual(width(accepts, holdings[0], goal), least_width(accepts, holdings[0], goal))

    def test_consequences(self):
        for accepts in all_accepts():
            holdings = all_holdings(accepts)[:5]
            wide = {(one, other): width(accepts, one, other) for one in holdings for other in holdings}
            for (one, other), most in wide.items():
                self.assertEqual(most, wide[other, one])
                self.assertLessEqual(most, max(map(len, rings_between(one, other)), default=1))
                for third in holdings:
                    self.assertLessEqual(most, max(wide[one, third], wide[third, other]))

    def test_more_acceptances(self):
        for accepts in all_accepts():
            holdings = all_holdings(accepts)[:4]
            every = tuple((person, item) for person in dict(holdings[0]) for item in dict(holdings[0]).values())
            for begin in holdings:
                for goal in holdings:
                    self.assertLessEqual(width(tuple(sorted(every)), begin, goal), width(accepts, begin, goal))
