"""[2], [8], [27], [29]: reach papers."""

import unittest

from handround.reachchecker import lets_reach
from handround.reachpapers import reach_paper
from handround.reaching import reachable
from handround.trades import after_row
from tests.calls import asked, returns
from tests.papermodel import ALL_SIZES, cases, told_reach
from tests.samples import (
    FIRST, FIRST_HELPED, HELPED, HUGE, LAST, LAST_HELPED, MORE, THREE, all_holdings, circle, distances, full, plain,
    some_accepts, turned,
)

TURN = ("ann", "cy", "bob")


class PaperTests(unittest.TestCase):
    def check(self, accepts, begin, goal, sizes):
        given = {"accepts": accepts, "begin": begin, "goal": goal}
        paper = reach_paper(accepts, begin, goal, sizes=sizes)
        self.assertEqual(asked(self, reach_paper, given, sizes=sizes), returns(paper))
        is_reached = goal in distances(accepts, begin, sizes)
        self.assertEqual(told_reach(accepts, begin, goal, paper, sizes), ("true", is_reached))
        self.assertIs(lets_reach(accepts, begin, goal, paper, sizes=sizes), is_reached)
        self.assertEqual(paper[0], "row" if is_reached else "closed")
        return paper

    def test_by_hand(self):
        self.assertEqual(self.check(THREE, FIRST, LAST, (2,)), ("closed", (FIRST,)))
        self.assertEqual(self.check(THREE, FIRST, LAST, (2, 3)), ("row", (TURN,)))
        self.assertEqual(self.check(MORE, FIRST, LAST, (2,)), ("row", (("bob", "cy"), ("ann", "cy"))))
        self.assertEqual(self.check(MORE, FIRST, LAST, (3,)), ("row", (TURN,)))
        self.assertEqual(self.check(HELPED, FIRST_HELPED, LAST_HELPED, (2,))[0], "row")

    def test_against_the_checker_of_the_words(self):
        words = set()
        for accepts, begin, goal in cases():
            for sizes in ALL_SIZES:
                words.add(self.check(accepts, begin, goal, sizes)[0])
                words.add(self.check(accepts, goal, begin, sizes)[0])
        self.assertEqual(words, {"row", "closed"})

    def test_equal_holdings(self):
        for sizes in ((), (2,), (2, 3), (HUGE,)):
            self.assertEqual(after_row(full(3), LAST, *self.check(full(3), LAST, LAST, sizes)[1]), LAST)

    def test_no_sizes_and_sizes_above_the_number_of_people(self):
        for sizes in ((), (4,), (5, 8), (HUGE,)):
            self.assertEqual(self.check(full(3), FIRST, LAST, sizes), ("closed", (FIRST,)))
        self.assertEqual(self.check(full(3), FIRST, LAST, (3, HUGE)), ("row", (TURN,)))

    def test_six_people(self):
        for seed in range(6):
            accepts = some_accepts(seed, 6, 8)
            holdings = all_holdings(accepts)
            for sizes in ((2,), (2, 3), (5,), (2, 3, 4, 5, 6)):
                self.check(accepts, holdings[0], holdings[-1], sizes)
        self.assertEqual(self.check(circle(6), plain(6), turned(6), (2, 3, 4, 5)), ("closed", (plain(6),)))
        paper = reach_paper(full(6), plain(6), turned(6), sizes=(3,))
        self.assertEqual(paper, ("closed", reachable(full(6), plain(6), sizes=(3,))))
        self.assertIs(lets_reach(full(6), plain(6), turned(6), paper, sizes=(3,)), False)

    def test_sizes_by_name_only(self):
        with self.assertRaises(TypeError):
            reach_paper(MORE, FIRST, LAST, (2,))
