"""[8], [43], [49], [50], [52]: end papers."""

import unittest

from handround.endchecker import lets_end
from handround.endpapers import end_paper
from handround.fairness import is_settled
from handround.trades import after_row
from tests.calls import asked, returns
from tests.papermodel import ALL_SIZES, cases, fair_steps, likes_of, reached, told_end
from tests.samples import (
    FIRST, HUGE, LAST, MORE, PEOPLE, THREE, all_holdings, circle, full, plain, some_accepts, turned,
)

LIKES = (("ann", ("cot", "bed")), ("bob", ("den", "cot")), ("cy", ("bed", "den")))
LIKES_MORE = (("ann", ("cot", "bed")), ("bob", ("den", "cot")), ("cy", ("bed", "cot", "den")))
TURN = ("ann", "cy", "bob")


class PaperTests(unittest.TestCase):
    def check(self, accepts, likes, begin, goal, sizes):
        given = {"accepts": accepts, "likes": likes, "begin": begin, "goal": goal}
        paper = end_paper(accepts, likes, begin, goal, sizes=sizes)
        self.assertEqual(asked(self, end_paper, given, sizes=sizes), returns(paper))
        known = reached(begin, lambda holding: fair_steps(accepts, likes, holding, sizes))
        is_end = goal in known and not fair_steps(accepts, likes, goal, sizes)
        self.assertEqual(told_end(accepts, likes, begin, goal, paper, sizes), ("true", is_end))
        self.assertIs(lets_end(accepts, likes, begin, goal, paper, sizes=sizes), is_end)
        self.assertEqual(paper[0] == "row", is_end)
        return paper

    def test_by_hand(self):
        self.assertEqual(self.check(THREE, LIKES, FIRST, LAST, (3,)), ("row", (TURN,)))
        self.assertEqual(self.check(THREE, LIKES, FIRST, LAST, (2,)), ("closed", (FIRST,)))
        self.assertEqual(self.check(THREE, LIKES, FIRST, FIRST, (2,)), ("row", ()))
        self.assertEqual(self.check(THREE, LIKES, FIRST, FIRST, (3,)), ("open", TURN))
        self.assertEqual(self.check(THREE, LIKES, LAST, FIRST, (3,)), ("open", TURN))
        self.assertEqual(self.check(THREE, LIKES, LAST, FIRST, (2,)), ("closed", (LAST,)))
        self.assertEqual(self.check(MORE, LIKES_MORE, FIRST, LAST, (2,)), ("row", (("bob", "cy"), ("ann", "cy"))))

    def test_against_the_checker_of_the_words(self):
        words = set()
        for seed, (accepts, begin, goal) in enumerate(cases()):
            for likes in (likes_of(accepts, seed), likes_of(accepts, seed + 50)):
                for sizes in ALL_SIZES:
                    words.add(self.check(accepts, likes, begin, goal, sizes)[0])
                    words.add(self.check(accepts, likes, goal, begin, sizes)[0])
        self.assertEqual(words, {"row", "open", "closed"})

    def test_each_holding_leads_to_an_end(self):
        for seed in range(6):
            accepts = some_accepts(seed, 4, 10)
            likes = likes_of(accepts, seed)
            holdings = all_holdings(accepts)
            for begin in holdings[:5]:
                papers = [self.check(accepts, likes, begin, goal, (2, 3)) for goal in holdings]
                self.assertGreater(len([paper for paper in papers if paper[0] == "row"]), 0)

    def test_settled_and_unsettled_goals(self):
        for seed in range(5):
            accepts = some_accepts(seed, 4, 10)
            likes = likes_of(accepts, seed + 3)
            begin, *goals = all_holdings(accepts)
            for goal in goals:
                for sizes in ((2,), (3,), (2, 4)):
                    word = self.check(accepts, likes, begin, goal, sizes)[0]
                    if is_settled(accepts, likes, goal, sizes=sizes):
                        self.assertIn(word, ("row", "closed"))
                    else:
                        self.assertIn(word, ("open", "closed"))

    def test_rows_are_fair_all_along(self):
        accepts = full(4)
        likes = likes_of(accepts, 2)
        for goal in all_holdings(accepts):
            word, rings = end_paper(accepts, likes, plain(4), goal, sizes=(2, 3))
            if word == "row":
                self.assertEqual(after_row(accepts, plain(4), *rings), goal)

    def test_equal_holdings(self):
        for accepts, begin, goal in cases():
            for sizes in ((), (2, 3)):
                self.check(accepts, likes_of(accepts, 1), begin, begin, sizes)
        self.assertEqual(end_paper(MORE, LIKES_MORE, FIRST, FIRST, sizes=()), ("row", ()))

    def test_six_people(self):
        for seed in range(4):
            accepts = some_accepts(seed, 6, 14)
            likes = likes_of(accepts, seed)
            holdings = all_holdings(accepts)
            for goal in holdings[::len(holdings) // 6 + 1]:
                for sizes in ((2,), (2, 3), (2, 3, 4, 5, 6)):
                    self.check(accepts, likes, holdings[0], goal, sizes)
        likes = tuple((person, tuple(item for other, item in turned(6) + plain(6) if other == person))
                      for person in PEOPLE[:6])
        ring = PEOPLE[:1] + PEOPLE[5:0:-1]
        self.assertEqual(self.check(circle(6), likes, plain(6), turned(6), (2, 3, 6)), ("row", (ring,)))
        self.assertEqual(self.check(circle(6), likes, plain(6), turned(6), (2, 3)), ("closed", (plain(6),)))
        self.assertEqual(self.check(circle(6), likes, turned(6), plain(6), (6,)), ("open", ring))

    def test_no_sizes_and_sizes_above_the_number_of_people(self):
        for sizes in ((), (4,), (5, 8), (HUGE,)):
            self.assertEqual(self.check(MORE, LIKES_MORE, FIRST, LAST, sizes), ("closed", (FIRST,)))
        self.assertEqual(self.check(MORE, LIKES_MORE, FIRST, LAST, (3, HUGE)), ("row", (TURN,)))

    def test_sizes_by_name_only(self):
        with self.assertRaises(TypeError):
            end_paper(MORE, LIKES_MORE, FIRST, LAST, (2,))
