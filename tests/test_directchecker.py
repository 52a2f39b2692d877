"""[2], [8], [9], [38]: the checker of direct papers."""

import unittest

from handround.directchecker import lets_direct
from handround.directpapers import direct_paper
from tests.calls import checked
from tests.papermodel import (
    NO_HOLDINGS, NO_NAMES, NO_PAIRS, NO_PAPERS, NO_RINGS, cases, direct_steps, pool_of, reached, told, told_direct,
    wrong_papers,
)
from tests.samples import (
    ANY, BOTH, FIRST, FIRST_HELPED, HELPED, HUGE, LAST, LAST_HELPED, MORE, STRANGE, THREE, all_holdings, full, plain,
    turned,
)

TURN = ("ann", "cy", "bob")
MIDDLE = (("ann", "bed"), ("bob", "den"), ("cy", "cot"))


class CheckerTests(unittest.TestCase):
    def check(self, accepts, begin, goal, thing, sizes, expected):
        given = {"accepts": accepts, "begin": begin, "goal": goal, "thing": thing}
        checked(self, lets_direct, told_direct, given, sizes, expected)

    def refuse(self, thing, word, at, accepts=MORE, sizes=(2,)):
        """That it is no paper of how to get from FIRST to LAST."""
        self.check(accepts, FIRST, LAST, thing, sizes, (word, at))


class RowTests(CheckerTests):
    def test_rows(self):
        self.check(MORE, FIRST, LAST, ("row", (("bob", "cy"), ("ann", "cy"))), (2,), True)
        self.check(MORE, FIRST, LAST, ("row", (TURN,)), (2, 3), True)
        self.check(THREE, FIRST, LAST, ("row", (TURN,)), (3, HUGE), True)
        self.check(MORE, FIRST, FIRST, ("row", ()), (), True)

    def test_no_ring(self):
        for ring in NO_RINGS:
            self.refuse(("row", (ring, ("ann", "cy"))), "trade", 0)
            self.refuse(("row", (("bob", "cy"), ring)), "trade", 1)

    def test_not_allowed(self):
        self.refuse(("row", (TURN,)), "trade", 0)
        self.refuse(("row", (("bob", "cy"), ("ann", "cy"))), "trade", 0, sizes=(3,))
        self.refuse(("row", (("bob", "cy"), ("ann", "cy"))), "trade", 0, sizes=())

    def test_not_possible(self):
        self.refuse(("row", (("ann", "cy"), ("bob", "cy"))), "trade", 0)
        self.refuse(("row", (("bob", "cy"), ("bob", "zoe"))), "trade", 1)
        self.refuse(("row", (("bob", "cy"), ("ann", "bob"))), "trade", 1)

    def test_not_direct(self):
        self.refuse(("row", (("bob", "cy"), ("bob", "cy"), TURN)), "trade", 1, sizes=(2, 3))
        self.refuse(("row", (("ann", "bob", "cy"), ("ann", "bob", "cy"))), "trade", 0, full(3), (2, 3))
        row = (("ann", "dan"), ("cy", "dan"), ("bob", "dan"), ("ann", "dan"))
        self.check(HELPED, FIRST_HELPED, LAST_HELPED, ("row", row), (2,), ("trade", 0))
        # Behind the goal no trade is direct.
        self.refuse(("row", (("bob", "cy"), ("ann", "cy"), ("ann", "cy"))), "trade", 2)

    def test_short_of_the_goal(self):
        self.refuse(("row", ()), "goal", -1)
        self.refuse(("row", (("bob", "cy"),)), "goal", -1)

    def test_the_first_trade_comes_ahead_of_the_goal_and_of_later_ones(self):
        self.refuse(("row", (("bob", "cy"), ("bob", "cy"), ("ann", "zoe"))), "trade", 1)
        self.refuse(("row", (TURN, ("ann", "zoe"))), "trade", 0)


class ClosedTests(CheckerTests):
    def test_closed(self):
        self.check(THREE, FIRST, LAST, ("closed", (FIRST,)), (2,), False)
        self.check(MORE, FIRST, LAST, ("closed", (FIRST,)), (), False)
        self.check(MORE, FIRST, LAST, ("closed", (FIRST, MIDDLE)), (4, 5), False)
        self.check(HELPED, FIRST_HELPED, LAST_HELPED, ("closed", (FIRST_HELPED,)), (2,), False)

    def test_closed_with_many(self):
        paper = direct_paper(full(5), plain(5), tuple(sorted(turned(5))), sizes=(4,))
        self.assertGreater(len(paper[1]), 3)
        self.check(full(5), plain(5), turned(5), paper, (4,), False)
        for at in range(len(paper[1])):
            fewer = ("closed", paper[1][:at] + paper[1][at + 1:])
            found = told(lets_direct, full(5), plain(5), turned(5), fewer, sizes=(4,))
            self.assertEqual(found, told_direct(full(5), plain(5), turned(5), fewer, (4,)))
            self.assertIn(found[0], ("begin", "leaves"))

    def test_no_holding(self):
        for thing in NO_HOLDINGS:
            self.refuse(("closed", (thing,)), "holding", 0)
            self.refuse(("closed", (FIRST, thing)), "holding", 1)
            self.refuse(("closed", (LAST, FIRST, thing)), "rise", 1)

    def test_rise(self):
        self.refuse(("closed", (FIRST, FIRST)), "rise", 1)
        self.refuse(("closed", (FIRST, LAST, MIDDLE)), "rise", 2)
        self.refuse(("closed", (LAST, FIRST)), "rise", 1)

    def test_begin_and_goal(self):
        self.refuse(("closed", ()), "begin", -1)
        self.refuse(("closed", (MIDDLE,)), "begin", -1)
        self.refuse(("closed", (LAST,)), "begin", -1)
        self.refuse(("closed", (FIRST, LAST)), "goal", -1)
        self.refuse(("closed", (FIRST, MIDDLE, LAST)), "goal", -1)
        self.check(MORE, FIRST, FIRST, ("closed", (FIRST,)), (2,), ("goal", -1))

    def test_leaves(self):
        self.refuse(("closed", (FIRST,)), "leaves", (0, ("bob", "cy")))
        self.refuse(("closed", (FIRST,)), "leaves", (0, TURN), sizes=(2, 3))
        self.refuse(("closed", (FIRST, MIDDLE)), "leaves", (1, ("ann", "cy")))
        # The place is that of the first holding, the ring the least one that leaves.
        self.refuse(("closed", (FIRST, MIDDLE)), "leaves", (0, TURN), sizes=(2, 3))
        self.refuse(("closed", (FIRST,)), "leaves", (0, ("ann", "bob")), full(3), (2, 3))
        swapped = (("ann", "cot"), ("bob", "bed"), ("cy", "den"))
        self.refuse(("closed", (FIRST, swapped)), "leaves", (0, ("ann", "cy")), full(3), (2,))
        self.refuse(("closed", (FIRST, swapped)), "leaves", (0, ("ann", "cy")), full(3), (2, 3))
        self.refuse(("closed", (FIRST, swapped)), "leaves", (0, TURN), full(3), (3,))

    def test_only_direct_trades_count(self):
        # dan's trades lead away, but they are not direct.
        self.check(HELPED, FIRST_HELPED, LAST_HELPED, ("closed", (FIRST_HELPED,)), (2,), False)
        found = told(lets_direct, HELPED, FIRST_HELPED, LAST_HELPED, ("closed", (FIRST_HELPED,)), sizes=(2, 3))
        self.assertEqual(found, ("leaves", (0, TURN)))


class ShapeTests(CheckerTests):
    def test_any_value(self):
        for thing in ANY:
            self.refuse(thing, "shape", -1)

    def test_words_and_lengths(self):
        for thing in NO_PAPERS + (
            ("effort", (), ()), ("open", TURN),
        ):
            self.refuse(thing, "shape", -1)

    def test_parts_of_a_row(self):
        for part in STRANGE + (0, 2):
            self.refuse(("row", ((part, "cy"),)), "shape", -1)
            self.refuse(("row", (("bob", "cy", part),)), "shape", -1)
            self.refuse(("row", (("bob", "cy"), part)), "shape", -1)
        for rings in NO_NAMES:
            self.refuse(("row", rings), "shape", -1)

    def test_parts_of_a_closed_paper(self):
        for part in STRANGE + (0, 2, ("ann",), ("ann", "bed", "cot")):
            self.refuse(("closed", (FIRST, (part,))), "shape", -1)
            self.refuse(("closed", ((("ann", part),),)), "shape", -1)
        for holdings in NO_PAIRS:
            self.refuse(("closed", holdings), "shape", -1)

    def test_the_shape_comes_first(self):
        self.refuse(("row", (("ann", "zoe"), ("bob", None))), "shape", -1)
        self.refuse(("row", ((), ["bob", "cy"])), "shape", -1)
        self.refuse(("closed", ((), LAST, (("ann", True),))), "shape", -1)

    def test_long_values(self):
        self.refuse(("row", (("bob", "cy"),) * 6000), "trade", 1)
        self.refuse(("row", ((),) * 19000), "trade", 0)
        self.refuse(("closed", (FIRST,) * 2000), "rise", 1)
        self.refuse(("closed", (FIRST * 6000,)), "holding", 0)

    def test_an_error_changes_nothing(self):
        thing = ["row", [["bob", "cy"]]]
        self.assertEqual(told(lets_direct, MORE, FIRST, LAST, thing), ("shape", -1))
        self.assertEqual(thing, ["row", [["bob", "cy"]]])

    def test_sizes_by_name_only(self):
        with self.assertRaises(TypeError):
            lets_direct(MORE, FIRST, LAST, ("row", ()), (2,))


class ModelTests(CheckerTests):
    def compare(self, accepts, begin, goal, thing, sizes):
        found = told(lets_direct, accepts, begin, goal, thing, sizes=sizes)
        expected = told_direct(accepts, begin, goal, thing, sizes)
        self.assertEqual(found, expected, (accepts, begin, goal, thing, sizes))
        self.assertIs(type(found[1]), type(expected[1]))
        if found[0] == "true":
            known = reached(begin, lambda holding: direct_steps(accepts, holding, goal, sizes))
            self.assertIs(found[1], goal in known)
        return found[0]

    def test_changed_papers(self):
        words = set()
        for seed, (accepts, begin, goal) in enumerate(cases()):
            for sizes in ((2,), (2, 3), (2, 3, 4)):
                papers = [direct_paper(accepts, begin, goal, sizes=some) for some in ((2,), (2, 3, 4), ())]
                papers.append(("closed", tuple(all_holdings(accepts)[:6])))
                for thing in wrong_papers(seed, papers, pool_of(accepts), 40):
                    words.add(self.compare(accepts, begin, goal, thing, sizes))
        self.assertEqual(words, {"true", "shape", "trade", "goal", "holding", "rise", "begin", "leaves"})

    def test_papers_for_another_goal_and_for_other_sizes(self):
        for accepts in (THREE, MORE, BOTH, full(3), HELPED):
            holdings = all_holdings(accepts)
            papers = [direct_paper(accepts, begin, goal, sizes=sizes) for begin in holdings[:2]
                      for goal in holdings[:4] for sizes in ((), (2,), (3,), (2, 3))]
            for begin in holdings[:2]:
                for goal in holdings[:4]:
                    for sizes in ((), (2,), (3,), (2, 3)):
                        for thing in papers:
                            self.compare(accepts, begin, goal, thing, sizes)
