"""[2], [8], [9], [27], [29]: the checker of reach papers."""

import unittest

from handround.reachchecker import lets_reach
from handround.reaching import reachable
from tests.calls import checked
from tests.papermodel import (
    ALL_SIZES, NO_HOLDINGS, NO_NAMES, NO_PAIRS, NO_PAPERS, NO_RINGS, cases, pool_of, row_or_closed, told, told_reach,
    wrong_papers,
)
from tests.samples import (
    ANY, FIRST, FIRST_HELPED, HELPED, HUGE, LAST, LAST_HELPED, MORE, PEOPLE, STRANGE, THREE, all_holdings, all_steps,
    circle, full, plain, turned,
)

TURN = ("ann", "cy", "bob")
MIDDLE = (("ann", "bed"), ("bob", "den"), ("cy", "cot"))
SWAPS = (("bob", "cy"), ("ann", "cy"))


def right_paper(accepts, begin, goal, sizes):
    return row_or_closed(begin, goal, lambda holding: all_steps(accepts, holding, sizes))


class CheckerTests(unittest.TestCase):
    def check(self, accepts, begin, goal, thing, sizes, expected):
        given = {"accepts": accepts, "begin": begin, "goal": goal, "thing": thing}
        checked(self, lets_reach, told_reach, given, sizes, expected)

    def refuse(self, thing, word, at, accepts=MORE, sizes=(2,)):
        """That it is no paper of how to get from FIRST to LAST."""
        self.check(accepts, FIRST, LAST, thing, sizes, (word, at))


class RowTests(CheckerTests):
    def test_rows(self):
        self.check(MORE, FIRST, LAST, ("row", SWAPS), (2,), True)
        self.check(MORE, FIRST, LAST, ("row", (TURN,)), (3, HUGE), True)
        self.check(MORE, FIRST, LAST, ("row", (("bob", "cy"), ("bob", "cy")) + SWAPS), (2,), True)
        self.check(THREE, FIRST, FIRST, ("row", ()), (), True)
        self.check(MORE, FIRST, FIRST, ("row", (("bob", "cy"),) * 40), (2,), True)
        help_of_dan = (("ann", "dan"), ("cy", "dan"), ("bob", "dan"), ("ann", "dan"))
        self.check(HELPED, FIRST_HELPED, LAST_HELPED, ("row", help_of_dan), (2,), True)

    def test_no_ring(self):
        for ring in NO_RINGS:
            self.refuse(("row", (ring, ("ann", "cy"))), "ring", 0)
            self.refuse(("row", (("bob", "cy"), ring)), "ring", 1)

    def test_not_allowed(self):
        self.refuse(("row", (TURN,)), "ring", 0)
        self.refuse(("row", SWAPS), "ring", 0, sizes=(3,))
        self.refuse(("row", SWAPS), "ring", 0, sizes=())
        self.refuse(("row", (("ann", "bob", "cy", "zoe"),)), "ring", 0, sizes=(2, 3, 5))

    def test_not_possible(self):
        self.refuse(("row", SWAPS[::-1]), "possible", 0)
        self.refuse(("row", (("bob", "cy"), ("bob", "zoe"))), "possible", 1)
        self.refuse(("row", (("bob", "cy"), ("ann", "bob"))), "possible", 1)
        self.refuse(("row", (("ann", "bob", "cy", "zoe"),)), "possible", 0, sizes=(2, 4))
        self.refuse(("row", (("yan", "zoe"),)), "possible", 0)
        self.refuse(("row", (PEOPLE,)), "possible", 0, sizes=(8,))

    def test_ring_comes_ahead_of_possible_and_both_ahead_of_the_next_one(self):
        self.refuse(("row", (("zoe", "yan"),)), "ring", 0)
        self.refuse(("row", (("ann", "bob"), ())), "possible", 0)
        self.refuse(("row", (("ann", "bob", "zoe"), ("ann", "bob"))), "ring", 0)
        self.refuse(("row", (("bob", "cy"), ("ann", "bob"), ())), "possible", 1)

    def test_another_holding_at_the_end(self):
        self.refuse(("row", ()), "goal", -1)
        self.refuse(("row", SWAPS[:1]), "goal", -1)
        self.refuse(("row", SWAPS + SWAPS[1:]), "goal", -1)
        self.check(MORE, FIRST, FIRST, ("row", SWAPS), (2,), ("goal", -1))


class ClosedTests(CheckerTests):
    def test_examples(self):
        self.check(THREE, FIRST, LAST, ("closed", (FIRST,)), (2,), False)
        self.refuse(("closed", (FIRST,)), "open", 0)

    def test_closed(self):
        self.check(MORE, FIRST, LAST, ("closed", (FIRST, MIDDLE)), (4, 5), False)
        self.check(MORE, FIRST, LAST, ("closed", (FIRST,)), (), False)
        self.check(circle(6), plain(6), turned(6), ("closed", (plain(6),)), (2, 3, 4, 5), False)
        # More than can be reached may be closed, too.
        self.check(full(3), FIRST, LAST, ("closed", (FIRST, MIDDLE)), (), False)

    def test_closed_with_many(self):
        begin, goal = plain(4), turned(4)
        paper = right_paper(full(4), begin, goal, (3,))
        self.assertEqual(len(paper[1]), 12)
        self.check(full(4), begin, goal, paper, (3,), False)
        for at in range(12):
            fewer = ("closed", paper[1][:at] + paper[1][at + 1:])
            expected = told_reach(full(4), begin, goal, fewer, (3,))
            self.assertEqual(expected[0], "open" if at else "begin")
            self.check(full(4), begin, goal, fewer, (3,), expected)

    def test_no_holding(self):
        for thing in NO_HOLDINGS:
            self.refuse(("closed", (thing,)), "holding", 0)
            self.refuse(("closed", (FIRST, thing)), "holding", 1)
            self.refuse(("closed", (FIRST, LAST, thing)), "holding", 2)

    def test_not_ascending(self):
        self.refuse(("closed", (FIRST, FIRST)), "holding", 1)
        self.refuse(("closed", (LAST, FIRST)), "holding", 1)
        self.refuse(("closed", (FIRST, LAST, MIDDLE)), "holding", 2)
        self.refuse(("closed", (LAST, FIRST, ())), "holding", 1)

    def test_begin_and_goal(self):
        self.refuse(("closed", ()), "begin", -1)
        self.refuse(("closed", (LAST,)), "begin", -1)
        self.refuse(("closed", (MIDDLE,)), "begin", -1)
        self.refuse(("closed", (FIRST, LAST)), "goal", -1)
        self.refuse(("closed", (FIRST, MIDDLE, LAST)), "goal", -1)
        self.check(MORE, FIRST, FIRST, ("closed", (FIRST,)), (2,), ("goal", -1))

    def test_open(self):
        self.refuse(("closed", (FIRST,)), "open", 0, sizes=(2, 3))
        self.refuse(("closed", (FIRST, MIDDLE)), "open", 1)
        self.refuse(("closed", (FIRST, MIDDLE)), "open", 0, sizes=(2, 3))
        self.refuse(("closed", (FIRST,)), "open", 0, THREE, (3,))


class ShapeTests(CheckerTests):
    def test_any_value(self):
        for thing in ANY:
            self.refuse(thing, "shape", -1)

    def test_words_and_lengths(self):
        for thing in NO_PAPERS + (("effort", (), ()), ("open", TURN)):
            self.refuse(thing, "shape", -1)

    def test_parts(self):
        for part in STRANGE + (0, 2):
            self.refuse(("row", ((part, "cy"),)), "shape", -1)
            self.refuse(("row", (("bob", "cy"), part)), "shape", -1)
            self.refuse(("closed", (FIRST, (part,))), "shape", -1)
            self.refuse(("closed", ((("ann", part),),)), "shape", -1)
        for rings in NO_NAMES:
            self.refuse(("row", rings), "shape", -1)
        for holdings in NO_PAIRS:
            self.refuse(("closed", holdings), "shape", -1)

    def test_the_shape_comes_first(self):
        self.refuse(("row", (("ann", "zoe"), ("bob", None))), "shape", -1)
        self.refuse(("closed", ((), LAST, (("ann", True),))), "shape", -1)

    def test_an_error_changes_nothing(self):
        thing = ["row", [["bob", "cy"]]]
        self.assertEqual(told(lets_reach, MORE, FIRST, LAST, thing), ("shape", -1))
        self.assertEqual(thing, ["row", [["bob", "cy"]]])

    def test_sizes_by_name_only(self):
        with self.assertRaises(TypeError):
            lets_reach(MORE, FIRST, LAST, ("row", SWAPS), (2,))


class ModelTests(CheckerTests):
    def compare(self, accepts, begin, goal, thing, sizes):
        found = told(lets_reach, accepts, begin, goal, thing, sizes=sizes)
        self.assertEqual(found, told_reach(accepts, begin, goal, thing, sizes), (accepts, begin, goal, thing, sizes))
        if found[0] == "true":
            self.assertIs(found[1], goal in reachable(accepts, begin, sizes=sizes))
        return found[0]

    def test_right_papers(self):
        for accepts, begin, goal in cases():
            for sizes in ALL_SIZES:
                paper = right_paper(accepts, begin, goal, sizes)
                self.assertEqual(self.compare(accepts, begin, goal, paper, sizes), "true")
                self.check(accepts, begin, goal, paper, sizes, paper[0] == "row")

    def test_changed_papers(self):
        words = set()
        for seed, (accepts, begin, goal) in enumerate(cases()):
            for sizes in ((2,), (2, 3), (2, 3, 4), ()):
                papers = [right_paper(accepts, begin, goal, sizes), right_paper(accepts, begin, goal, (2, 3)),
                          ("closed", tuple(all_holdings(accepts)[:6]))]
                for thing in wrong_papers(seed, papers, pool_of(accepts), 40):
                    words.add(self.compare(accepts, begin, goal, thing, sizes))
        self.assertEqual(words, {"true", "shape", "ring", "possible", "goal", "holding", "begin", "open"})

    def test_papers_for_another_goal_and_other_sizes(self):
        for accepts in (THREE, MORE, full(3)):
            holdings = all_holdings(accepts)
            papers = [right_paper(accepts, begin, goal, sizes) for begin in holdings[:3] for goal in holdings[:4]
                      for sizes in ((), (2,), (3,), (2, 3))]
            for begin in holdings[:2]:
                for goal in holdings[:4]:
                    for sizes in ((), (2,), (3,), (2, 3), (4,)):
                        forms = {self.compare(accepts, begin, goal, thing, sizes) == "true" and thing[0]
                                 for thing in papers} - {False}
                        # [29]: papers of only one form are accepted.
                        self.assertLessEqual(len(forms), 1)
