"""[8], [38]: direct papers."""

import unittest

from handround.directchecker import lets_direct
from handround.directpapers import direct_paper
from handround.directs import direct_row
from tests.calls import asked, returns
from tests.papermodel import ALL_SIZES, cases, direct_steps, reached, told_direct
from tests.samples import (
    FIRST, FIRST_HELPED, HELPED, HUGE, LAST, LAST_HELPED, MORE, THREE, all_holdings, circle, full, plain, some_accepts,
    turned,
)


class PaperTests(unittest.TestCase):
    def check(self, accepts, begin, goal, sizes):
        given = {"accepts": accepts, "begin": begin, "goal": goal}
        paper = direct_paper(accepts, begin, goal, sizes=sizes)
        self.assertEqual(asked(self, direct_paper, given, sizes=sizes), returns(paper))
        known = reached(begin, lambda holding: direct_steps(accepts, holding, goal, sizes))
        self.assertEqual(told_direct(accepts, begin, goal, paper, sizes), ("true", goal in known))
        self.assertIs(lets_direct(accepts, begin, goal, paper, sizes=sizes), goal in known)
        self.assertEqual(paper[0], "row" if goal in known else "closed")
        self.assertIs(direct_row(accepts, begin, goal, sizes=sizes) is None, goal not in known)
        return paper

    def test_examples(self):
        self.assertEqual(direct_paper(MORE, FIRST, LAST), ("row", (("bob", "cy"), ("ann", "cy"))))
        self.assertEqual(direct_paper(THREE, FIRST, LAST), ("closed", (FIRST,)))
        self.assertEqual(direct_paper(THREE, FIRST, LAST, sizes=(3,)), ("row", (("ann", "cy", "bob"),)))

    def test_against_the_checker_of_the_words(self):
        for accepts, begin, goal in cases():
            for sizes in ALL_SIZES:
                self.check(accepts, begin, goal, sizes)

    def test_equal_holdings(self):
        for sizes in ((), (2,), (2, 3), (HUGE,)):
            self.assertEqual(self.check(full(3), LAST, LAST, sizes), ("row", ()))

    def test_a_goal_that_can_be_reached_but_not_directly(self):
        paper = self.check(HELPED, FIRST_HELPED, LAST_HELPED, (2,))
        self.assertEqual(paper, ("closed", (FIRST_HELPED,)))
        self.check(HELPED, FIRST_HELPED, LAST_HELPED, (2, 3))

    def test_six_people(self):
        for seed in range(6):
            accepts = some_accepts(seed, 6, 8)
            holdings = all_holdings(accepts)
            for sizes in ((2,), (2, 3), (5,), (2, 3, 4, 5, 6)):
                self.check(accepts, holdings[0], holdings[-1], sizes)
        self.assertEqual(self.check(circle(6), plain(6), turned(6), (2, 3, 4, 5)), ("closed", (plain(6),)))
        paper = direct_paper(full(6), plain(6), turned(6), sizes=(3,))
        self.assertEqual(paper[0], "closed")
        self.assertGreater(len(paper[1]), 10)
        self.assertIs(lets_direct(full(6), plain(6), turned(6), paper, sizes=(3,)), False)

    def test_sizes_by_name_only(self):
        with self.assertRaises(TypeError):
            direct_paper(MORE, FIRST, LAST, (2,))
