"""[8], [40]: effort papers."""

import unittest

from handround.effortchecker import lets_effort
from handround.effortpapers import effort_paper
from handround.trades import after_row
from tests.calls import asked, returns
from tests.papermodel import ALL_SIZES, cases, efforts, told_effort
from tests.samples import (
    FIRST, FIRST_HELPED, HELPED, HUGE, LAST, LAST_HELPED, MORE, THREE, all_holdings, circle, full, plain, some_accepts,
    turned,
)

MIDDLE = (("ann", "bed"), ("bob", "den"), ("cy", "cot"))


class PaperTests(unittest.TestCase):
    def check(self, accepts, begin, goal, sizes):
        given = {"accepts": accepts, "begin": begin, "goal": goal}
        paper = effort_paper(accepts, begin, goal, sizes=sizes)
        self.assertEqual(asked(self, effort_paper, given, sizes=sizes), returns(paper))
        known = efforts(accepts, begin, sizes)
        self.assertEqual(told_effort(accepts, begin, goal, paper, sizes), ("true", known.get(goal)))
        self.assertEqual(lets_effort(accepts, begin, goal, paper, sizes=sizes), known.get(goal))
        if goal in known:
            word, rings, marks = paper
            self.assertEqual(word, "effort")
            self.assertEqual(after_row(accepts, begin, *rings), goal)
            self.assertEqual(sum(len(ring) - 1 for ring in rings), known[goal])
            self.assertEqual(marks, tuple(sorted(marks)))
            self.assertIn((begin, 0), marks)
        else:
            self.assertEqual(paper[0], "closed")
        return paper

    def test_examples(self):
        self.assertEqual(effort_paper(THREE, FIRST, LAST), ("closed", (FIRST,)))
        self.assertEqual(effort_paper(MORE, FIRST, LAST),
                         ("effort", (("bob", "cy"), ("ann", "cy")), ((FIRST, 0), (MIDDLE, 1), (LAST, 2))))

    def test_against_the_checker_of_the_words(self):
        for accepts, begin, goal in cases():
            for sizes in ALL_SIZES:
                self.check(accepts, begin, goal, sizes)

    def test_equal_holdings(self):
        self.assertEqual(self.check(full(3), LAST, LAST, ()), ("effort", (), ((LAST, 0),)))
        for sizes in ((2,), (2, 3), (HUGE,)):
            self.assertEqual(self.check(full(3), LAST, LAST, sizes)[1], ())

    def test_detours(self):
        paper = self.check(HELPED, FIRST_HELPED, LAST_HELPED, (2,))
        self.assertEqual(len(paper[1]), 4)
        paper = self.check(HELPED, FIRST_HELPED, LAST_HELPED, (3,))
        self.assertEqual(len(paper[1]), 1)

    def test_six_people(self):
        for seed in range(4):
            accepts = some_accepts(seed, 6, 8)
            holdings = all_holdings(accepts)
            for sizes in ((2,), (2, 3), (4,)):
                self.check(accepts, holdings[0], holdings[-1], sizes)
        self.assertEqual(self.check(circle(6), plain(6), turned(6), (2, 3, 4, 5)), ("closed", (plain(6),)))
        self.assertEqual(self.check(circle(6), plain(6), turned(6), (6,))[2], ((plain(6), 0), (turned(6), 5)))

    def test_the_full_market_of_six(self):
        paper = effort_paper(full(6), plain(6), turned(6))
        self.assertEqual(len(paper[2]), 720)
        self.assertEqual(lets_effort(full(6), plain(6), turned(6), paper), 5)
        paper = effort_paper(full(6), plain(6), turned(6), sizes=(3,))
        self.assertEqual((paper[0], len(paper[1])), ("closed", 360))
        self.assertIsNone(lets_effort(full(6), plain(6), turned(6), paper, sizes=(3,)))

    def test_sizes_by_name_only(self):
        with self.assertRaises(TypeError):
            effort_paper(MORE, FIRST, LAST, (2,))
