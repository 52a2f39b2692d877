"""[2], [8], [9], [40]: the checker of effort papers."""

import unittest

from handround.effortchecker import lets_effort
from handround.effortpapers import effort_paper
from tests.calls import checked
from tests.papermodel import (
    NO_HOLDINGS, NO_NAMES, NO_PAIRS, NO_PAPERS, NO_RINGS, cases, efforts, pool_of, told, told_effort, wrong_papers,
)
from tests.samples import (
    ANY, BOTH, FIRST, FIRST_HELPED, HELPED, HUGE, LAST, LAST_HELPED, MORE, STRANGE, THREE, all_holdings, full,
)

TURN = ("ann", "cy", "bob")
MIDDLE = (("ann", "bed"), ("bob", "den"), ("cy", "cot"))
SWAPS = (("bob", "cy"), ("ann", "cy"))
MARKS = ((FIRST, 0), (MIDDLE, 1), (LAST, 2))


class CheckerTests(unittest.TestCase):
    def check(self, accepts, begin, goal, thing, sizes, expected):
        given = {"accepts": accepts, "begin": begin, "goal": goal, "thing": thing}
        checked(self, lets_effort, told_effort, given, sizes, expected)

    def refuse(self, thing, word, at, accepts=MORE, sizes=(2,)):
        """That it is no paper of how to get from FIRST to LAST."""
        self.check(accepts, FIRST, LAST, thing, sizes, (word, at))


class RowTests(CheckerTests):
    def test_efforts(self):
        self.check(MORE, FIRST, LAST, ("effort", SWAPS, MARKS), (2,), 2)
        self.check(MORE, FIRST, LAST, ("effort", (TURN,), MARKS), (2, 3), 2)
        self.check(THREE, FIRST, LAST, ("effort", (TURN,), ((FIRST, 0), (LAST, 2))), (3, HUGE), 2)
        self.check(MORE, FIRST, FIRST, ("effort", (), ((FIRST, 0),)), (), 0)
        # More marks than needed, with numbers that nobody reaches.
        self.check(MORE, FIRST, FIRST, ("effort", (), ((FIRST, 0), (MIDDLE, 7), (LAST, HUGE))), (), 0)
        self.check(MORE, FIRST, FIRST, ("effort", (), MARKS), (2,), 0)

    def test_a_detour_that_is_needed(self):
        paper = effort_paper(HELPED, FIRST_HELPED, LAST_HELPED)
        self.check(HELPED, FIRST_HELPED, LAST_HELPED, paper, (2,), 4)

    def test_no_ring(self):
        for ring in NO_RINGS:
            self.refuse(("effort", (ring, ("ann", "cy")), MARKS), "trade", 0)
            self.refuse(("effort", (("bob", "cy"), ring), MARKS), "trade", 1)

    def test_not_allowed(self):
        self.refuse(("effort", (TURN,), MARKS), "trade", 0)
        self.refuse(("effort", SWAPS, MARKS), "trade", 0, sizes=(3,))
        self.refuse(("effort", SWAPS, MARKS), "trade", 0, sizes=())

    def test_not_possible(self):
        self.refuse(("effort", SWAPS[::-1], MARKS), "trade", 0)
        self.refuse(("effort", (("bob", "cy"), ("bob", "zoe")), MARKS), "trade", 1)
        self.refuse(("effort", (("bob", "cy"), ("ann", "bob")), MARKS), "trade", 1)

    def test_rows_need_not_be_direct(self):
        row = (("bob", "cy"), ("bob", "cy")) + SWAPS
        self.refuse(("effort", row, MARKS), "least", -1)
        self.refuse(("effort", row, ((FIRST, 0), (MIDDLE, 1), (LAST, 4))), "mark", (1, ("ann", "cy")))

    def test_short_of_the_goal(self):
        self.refuse(("effort", (), MARKS), "goal", -1)
        self.refuse(("effort", SWAPS[:1], MARKS), "goal", -1)
        self.refuse(("effort", SWAPS + SWAPS[1:], MARKS), "goal", -1)

    def test_the_row_comes_ahead_of_the_marks(self):
        self.refuse(("effort", SWAPS[::-1], ((LAST, 0), ((), 1))), "trade", 0)
        self.refuse(("effort", (), ((LAST, 0), ((), 1))), "goal", -1)
        self.refuse(("effort", (), ()), "goal", -1)


class MarkTests(CheckerTests):
    def marks(self, *marks):
        return ("effort", SWAPS, marks)

    def test_no_holding(self):
        for thing in NO_HOLDINGS:
            self.refuse(self.marks((thing, 0)), "holding", 0)
            self.refuse(self.marks((FIRST, 0), (thing, 1)), "holding", 1)
            self.refuse(self.marks((LAST, 0), (FIRST, 1), (thing, 1)), "rise", 1)

    def test_rise(self):
        self.refuse(self.marks((FIRST, 0), (FIRST, 1), (MIDDLE, 1), (LAST, 2)), "rise", 1)
        self.refuse(self.marks((FIRST, 0), (FIRST, 0), (MIDDLE, 1), (LAST, 2)), "rise", 1)
        self.refuse(self.marks((FIRST, 0), (LAST, 2), (MIDDLE, 1)), "rise", 2)
        self.refuse(self.marks((MIDDLE, 1), (FIRST, 0), (LAST, 2)), "rise", 1)

    def test_begin(self):
        self.refuse(self.marks(), "begin", -1)
        self.refuse(self.marks((MIDDLE, 1), (LAST, 2)), "begin", -1)
        self.refuse(self.marks((FIRST, 1), (MIDDLE, 2), (LAST, 3)), "begin", -1)
        self.refuse(self.marks((FIRST, 2), (MIDDLE, 0), (LAST, 2)), "begin", -1)
        self.refuse(self.marks((FIRST, HUGE), (MIDDLE, 1), (LAST, 2)), "begin", -1)

    def test_a_missing_mark(self):
        self.refuse(self.marks((FIRST, 0)), "mark", (0, ("bob", "cy")))
        self.refuse(self.marks((FIRST, 0), (LAST, 2)), "mark", (0, ("bob", "cy")))
        self.refuse(self.marks((FIRST, 0), (MIDDLE, 1)), "mark", (1, ("ann", "cy")))
        self.refuse(self.marks((FIRST, 0), (MIDDLE, 1)), "mark", (0, TURN), sizes=(2, 3))

    def test_another_number(self):
        self.refuse(self.marks((FIRST, 0), (MIDDLE, 2), (LAST, 2)), "mark", (0, ("bob", "cy")))
        self.refuse(self.marks((FIRST, 0), (MIDDLE, 1), (LAST, 3)), "mark", (1, ("ann", "cy")))
        self.refuse(self.marks((FIRST, 0), (MIDDLE, 1), (LAST, 3)), "mark", (0, TURN), sizes=(2, 3))
        self.refuse(self.marks((FIRST, 0), (MIDDLE, 1), (LAST, HUGE)), "mark", (1, ("ann", "cy")))
        self.refuse(self.marks((FIRST, 0), (MIDDLE, 1), (LAST, 1)), "least", -1)
        self.refuse(self.marks((FIRST, 0), (MIDDLE, 0), (LAST, 0)), "least", -1)

    def test_the_least_ring_at_the_first_mark(self):
        self.refuse(self.marks((FIRST, 0)), "mark", (0, ("ann", "bob")), full(3), (2, 3))
        swapped = (("ann", "cot"), ("bob", "bed"), ("cy", "den"))
        self.refuse(self.marks((FIRST, 0)), "trade", 0, full(3), (3,))
        self.refuse(self.marks((FIRST, 0), (swapped, 1)), "mark", (0, ("ann", "cy")), full(3))
        self.refuse(self.marks((FIRST, 0), (swapped, 2)), "mark", (0, ("ann", "bob")), full(3))

    def test_the_order(self):
        self.refuse(self.marks((MIDDLE, 1), ((), 1)), "holding", 1)
        self.refuse(self.marks((FIRST, 3), (FIRST, 3)), "rise", 1)
        self.refuse(self.marks((FIRST, 3), (LAST, 1)), "begin", -1)
        self.refuse(self.marks((FIRST, 0), (MIDDLE, 5), (LAST, 1)), "mark", (0, ("bob", "cy")))


class ClosedTests(CheckerTests):
    def test_closed(self):
        self.check(THREE, FIRST, LAST, ("closed", (FIRST,)), (2,), None)
        self.check(MORE, FIRST, LAST, ("closed", (FIRST,)), (), None)
        self.check(MORE, FIRST, LAST, ("closed", (FIRST, MIDDLE)), (4, 5), None)

    def test_closed_with_many(self):
        begin, goal = all_holdings(full(4))[0], all_holdings(full(4))[1]
        paper = effort_paper(full(4), begin, goal, sizes=(3,))
        self.assertEqual(len(paper[1]), 12)
        self.check(full(4), begin, goal, paper, (3,), None)
        for at in range(12):
            fewer = ("closed", paper[1][:at] + paper[1][at + 1:])
            expected = told_effort(full(4), begin, goal, fewer, (3,))
            self.assertEqual(expected[0], "leaves" if at else "begin")
            self.check(full(4), begin, goal, fewer, (3,), expected)

    def test_no_holding_and_rise(self):
        for thing in ((), FIRST[:2], FIRST[::-1], MORE, (("ann", "bed"), ("bob", "cot"), ("zoe", "den"))):
            self.refuse(("closed", (thing,)), "holding", 0)
            self.refuse(("closed", (FIRST, thing)), "holding", 1)
            self.refuse(("closed", (LAST, FIRST, thing)), "rise", 1)
        self.refuse(("closed", (FIRST, FIRST)), "rise", 1)

    def test_begin_and_goal(self):
        self.refuse(("closed", ()), "begin", -1)
        self.refuse(("closed", (LAST,)), "begin", -1)
        self.refuse(("closed", (FIRST, LAST)), "goal", -1)
        self.check(MORE, FIRST, FIRST, ("closed", (FIRST,)), (), ("goal", -1))

    def test_leaves_by_any_trade(self):
        self.refuse(("closed", (FIRST,)), "leaves", (0, ("bob", "cy")))
        self.refuse(("closed", (FIRST, MIDDLE)), "leaves", (1, ("ann", "cy")))
        self.refuse(("closed", (FIRST, MIDDLE)), "leaves", (0, TURN), sizes=(2, 3))
        # The trade is not direct.
        self.check(HELPED, FIRST_HELPED, LAST_HELPED, ("closed", (FIRST_HELPED,)), (2,), ("leaves", (0, ("ann", "dan"))))


class ShapeTests(CheckerTests):
    def test_any_value(self):
        for thing in ANY:
            self.refuse(thing, "shape", -1)

    def test_words_and_lengths(self):
        for thing in NO_PAPERS + (
            ("effort",), ("effort", SWAPS), ("effort", SWAPS, MARKS, ()), ("row", SWAPS), ("row", SWAPS, MARKS),
            ("closed", SWAPS, MARKS), ("efforts", SWAPS, MARKS), (None, SWAPS, MARKS), ["effort", SWAPS, MARKS],
            ("effort", MARKS, SWAPS), (True, SWAPS, MARKS), (SWAPS, MARKS, "effort"),
        ):
            self.refuse(thing, "shape", -1)

    def test_numbers(self):
        for number in (True, False, None, -1, -HUGE, "0", "", (), (0,), [0], [], ((((0,),),),)):
            self.refuse(("effort", SWAPS, ((FIRST, number), (MIDDLE, 1), (LAST, 2))), "shape", -1)
            self.refuse(("effort", SWAPS, ((FIRST, 0), (MIDDLE, 1), (LAST, number))), "shape", -1)
        # True is not 1, and False is not 0.
        self.refuse(("effort", SWAPS, ((FIRST, 0), (MIDDLE, True), (LAST, 2))), "shape", -1)
        self.check(MORE, FIRST, FIRST, ("effort", (), ((FIRST, False),)), (), ("shape", -1))

    def test_parts_of_a_row(self):
        for part in STRANGE + (0, 2):
            self.refuse(("effort", ((part, "cy"),), MARKS), "shape", -1)
            self.refuse(("effort", (("bob", "cy"), part), MARKS), "shape", -1)
        for rings in NO_NAMES:
            self.refuse(("effort", rings, MARKS), "shape", -1)

    def test_parts_of_marks(self):
        for part in STRANGE + (0, (), (FIRST,), (FIRST, 0, 0), [FIRST, 0], (0, FIRST), (list(FIRST), 0), FIRST):
            self.refuse(("effort", SWAPS, (part,)), "shape", -1)
            self.refuse(("effort", SWAPS, MARKS + (part,)), "shape", -1)
        for part in STRANGE + (0, "ann", (("ann",),), (("ann", "bed", "cot"),), ("ann", "bed"), (FIRST,)):
            self.refuse(("effort", SWAPS, ((part, 0),)), "shape", -1)
        for marks in ([], list(MARKS), None, 0, True, "", MARKS[0]):
            self.refuse(("effort", SWAPS, marks), "shape", -1)

    def test_parts_of_a_closed_paper(self):
        for part in STRANGE + (0, 2, ("ann",), ("ann", "bed", "cot")):
            self.refuse(("closed", (FIRST, (part,))), "shape", -1)
        for holdings in NO_PAIRS:
            self.refuse(("closed", holdings), "shape", -1)

    def test_the_shape_comes_first(self):
        self.refuse(("effort", SWAPS[::-1], ((FIRST, 0), (LAST, -1))), "shape", -1)
        self.refuse(("effort", ((), ["bob", "cy"]), ()), "shape", -1)
        self.refuse(("closed", ((), LAST, (("ann", True),))), "shape", -1)

    def test_long_values(self):
        self.refuse(("effort", (("bob", "cy"),) * 6000, MARKS), "goal", -1)
        self.refuse(("effort", SWAPS, ((FIRST, 0),) * 2000), "rise", 1)

    def test_an_error_changes_nothing(self):
        thing = ["effort", [["bob", "cy"]], [[FIRST, 0]]]
        self.assertEqual(told(lets_effort, MORE, FIRST, LAST, thing), ("shape", -1))
        self.assertEqual(thing, ["effort", [["bob", "cy"]], [[FIRST, 0]]])

    def test_sizes_by_name_only(self):
        with self.assertRaises(TypeError):
            lets_effort(MORE, FIRST, LAST, ("effort", SWAPS, MARKS), (2,))


class ModelTests(CheckerTests):
    def compare(self, accepts, begin, goal, thing, sizes):
        found = told(lets_effort, accepts, begin, goal, thing, sizes=sizes)
        self.assertEqual(found, told_effort(accepts, begin, goal, thing, sizes), (accepts, begin, goal, thing, sizes))
        if found[0] == "true":
            self.assertEqual(found[1], efforts(accepts, begin, sizes).get(goal))
            self.assertIn(type(found[1]), (int, type(None)))
        return found[0]

    def test_changed_papers(self):
        words = set()
        for seed, (accepts, begin, goal) in enumerate(cases()):
            if len(accepts) > 12:
                continue
            for sizes in ((2,), (2, 3), (2, 3, 4)):
                papers = [effort_paper(accepts, begin, goal, sizes=some) for some in ((2,), (2, 3, 4), ())]
                papers.append(("closed", tuple(all_holdings(accepts)[:6])))
                for thing in wrong_papers(seed, papers, pool_of(accepts), 40):
                    words.add(self.compare(accepts, begin, goal, thing, sizes))
        expected = {"true", "shape", "trade", "goal", "holding", "rise", "begin", "mark", "least", "leaves"}
        self.assertEqual(words, expected)

    def test_changed_numbers(self):
        for accepts, begin, goal in ((MORE, FIRST, LAST), (full(3), FIRST, LAST), (HELPED, FIRST_HELPED, LAST_HELPED)):
            for sizes in ((2,), (2, 3)):
                word, rings, marks = effort_paper(accepts, begin, goal, sizes=sizes)
                for at, (holding, number) in enumerate(marks):
                    for other in {0, 1, number + 1, number + 2, max(0, number - 1), max(0, number - 2)}:
                        thing = (word, rings, marks[:at] + ((holding, other),) + marks[at + 1:])
                        self.compare(accepts, begin, goal, thing, sizes)
                    self.compare(accepts, begin, goal, (word, rings, marks[:at] + marks[at + 1:]), sizes)

    def test_papers_for_another_goal_and_for_other_sizes(self):
        for accepts in (THREE, MORE, BOTH, full(3)):
            holdings = all_holdings(accepts)
            papers = [effort_paper(accepts, begin, goal, sizes=sizes) for begin in holdings[:2]
                      for goal in holdings[:4] for sizes in ((), (2,), (3,), (2, 3))]
            for begin in holdings[:2]:
                for goal in holdings[:4]:
                    for sizes in ((), (2,), (3,), (2, 3)):
                        for thing in papers:
                            self.compare(accepts, begin, goal, thing, sizes)
