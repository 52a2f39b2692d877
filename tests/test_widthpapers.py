"""[2], [8], [25], [28], [29]: width papers."""

import unittest

from handround.reachchecker import lets_reach
from handround.widthchecker import lets_width
from handround.widthpapers import width_paper
from handround.widths import width
from tests.calls import asked, returns
from tests.papermodel import cases, told_width
from tests.samples import (
    BOTH, FIRST, FIRST_HELPED, HELPED, LAST, LAST_HELPED, MORE, SAME, THREE, all_accepts, all_holdings, circle, full,
    least_width, plain, some_accepts, turned,
)

TURN = ("ann", "cy", "bob")


class PaperTests(unittest.TestCase):
    def check(self, accepts, begin, goal):
        given = {"accepts": accepts, "begin": begin, "goal": goal}
        paper = width_paper(accepts, begin, goal)
        self.assertEqual(asked(self, width_paper, given), returns(paper))
        number = least_width(accepts, begin, goal)
        self.assertEqual(told_width(accepts, begin, goal, paper), ("true", number))
        self.assertEqual(lets_width(accepts, begin, goal, paper), number)
        self.assertEqual((paper[0], width(accepts, begin, goal)), (number, number))
        _, rings, holdings = paper
        sizes = tuple(range(2, number + 1))
        self.assertIs(lets_reach(accepts, begin, goal, ("row", rings), sizes=sizes), True)
        if number > 1:
            self.assertIs(lets_reach(accepts, begin, goal, ("closed", holdings), sizes=sizes[:-1]), False)
        return paper

    def test_by_hand(self):
        self.assertEqual(self.check(THREE, FIRST, LAST), (3, (TURN,), (FIRST,)))
        self.assertEqual(self.check(MORE, FIRST, LAST), (2, (("bob", "cy"), ("ann", "cy")), (FIRST,)))
        self.assertEqual(self.check(HELPED, FIRST_HELPED, LAST_HELPED)[0], 2)

    def test_smaller_trades_that_do_not_suffice(self):
        # Two others can trade, but they cannot help the three.
        accepts = tuple(sorted(THREE + (("dan", "elm"), ("dan", "fan"), ("eve", "elm"), ("eve", "fan"))))
        begin, goal = (some + (("dan", "elm"), ("eve", "fan")) for some in (FIRST, LAST))
        traded = FIRST + (("dan", "fan"), ("eve", "elm"))
        self.assertEqual(self.check(accepts, begin, goal), (3, (TURN,), (begin, traded)))
        for extra in (5, 6):
            accepts = some_accepts(22, 6, extra)
            holdings = all_holdings(accepts)
            papers = [self.check(accepts, holdings[0], goal) for goal in holdings]
            self.assertIn((3, 2), [(number, len(closed)) for number, rings, closed in papers])

    def test_equal_holdings(self):
        for accepts in all_accepts() + [circle(6), full(6)]:
            for holding in all_holdings(accepts)[:5]:
                self.assertEqual(self.check(accepts, holding, holding), (1, (), ()))

    def test_against_the_checker_of_the_words(self):
        numbers = set()
        for accepts, begin, goal in cases():
            numbers.add(self.check(accepts, begin, goal)[0])
            numbers.add(self.check(accepts, goal, begin)[0])
        for accepts in all_accepts():
            for goal in all_holdings(accepts):
                numbers.add(self.check(accepts, all_holdings(accepts)[0], goal)[0])
        self.assertEqual(numbers, {1, 2, 3, 4})

    def test_as_many_as_there_are(self):
        for many in range(2, 9):
            ring = tuple(name for name, item in plain(many)[:1] + plain(many)[:0:-1])
            self.assertEqual(self.check(circle(many), plain(many), turned(many)), (many, (ring,), (plain(many),)))
        for accepts in (BOTH, SAME):
            first, last = all_holdings(accepts)
            self.assertEqual(self.check(accepts, first, last)[0], 2)

    def test_six_people(self):
        for seed in range(6):
            accepts = some_accepts(seed, 6, 7)
            holdings = all_holdings(accepts)
            for goal in holdings[::5]:
                self.check(accepts, holdings[0], goal)
        self.assertEqual(width_paper(full(6), plain(6), turned(6))[::2], (2, (plain(6),)))
