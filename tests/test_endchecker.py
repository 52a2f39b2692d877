"""[2], [8], [9], [50]: the checker of end papers."""

import unittest

from handround.endchecker import lets_end
from handround.endpapers import end_paper
from tests.calls import checked
from tests.papermodel import (
    NO_HOLDINGS, NO_NAMES, NO_PAIRS, NO_PAPERS, NO_RINGS, cases, fair_steps, likes_of, pool_of, reached, told, told_end,
    wrong_papers,
)
from tests.samples import ANY, FIRST, HUGE, LAST, MORE, STRANGE, THREE, all_holdings, full, plain

LIKES = (("ann", ("cot", "bed")), ("bob", ("den", "cot")), ("cy", ("bed", "cot", "den")))
# At first bob and cy would rather keep what they have than trade with each other.
PROUD = (("ann", ("cot", "bed")), ("bob", ("cot", "den")), ("cy", ("bed", "den", "cot")))
TURN = ("ann", "cy", "bob")
MIDDLE = (("ann", "bed"), ("bob", "den"), ("cy", "cot"))
SWAPS = (("bob", "cy"), ("ann", "cy"))


class CheckerTests(unittest.TestCase):
    def check(self, accepts, likes, begin, goal, thing, sizes, expected):
        given = {"accepts": accepts, "likes": likes, "begin": begin, "goal": goal, "thing": thing}
        checked(self, lets_end, told_end, given, sizes, expected)

    def refuse(self, thing, word, at, likes=LIKES, sizes=(2,), goal=LAST):
        """That it is no paper of how to get from FIRST to the goal."""
        self.check(MORE, likes, FIRST, goal, thing, sizes, (word, at))


class RowTests(CheckerTests):
    def test_rows(self):
        self.check(MORE, LIKES, FIRST, LAST, ("row", SWAPS), (2,), True)
        self.check(MORE, LIKES, FIRST, LAST, ("row", (TURN,)), (2, 3), True)
        self.check(MORE, LIKES, FIRST, LAST, ("row", (TURN,)), (3, HUGE), True)
        self.check(MORE, LIKES, FIRST, FIRST, ("row", ()), (), True)
        self.check(MORE, PROUD, FIRST, FIRST, ("row", ()), (2, 3), True)

    def test_no_ring(self):
        for ring in NO_RINGS:
            self.refuse(("row", (ring, ("ann", "cy"))), "ring", 0)
            self.refuse(("row", (("bob", "cy"), ring)), "ring", 1)

    def test_not_allowed(self):
        self.refuse(("row", (TURN,)), "ring", 0)
        self.refuse(("row", SWAPS), "ring", 0, sizes=(3,))
        self.refuse(("row", SWAPS), "ring", 0, sizes=())

    def test_not_possible(self):
        self.refuse(("row", SWAPS[::-1]), "ring", 0)
        self.refuse(("row", (("bob", "cy"), ("bob", "zoe"))), "ring", 1)
        self.refuse(("row", (("bob", "cy"), ("ann", "bob"))), "ring", 1)

    def test_possible_but_not_fair(self):
        self.refuse(("row", SWAPS), "ring", 0, likes=PROUD)
        self.refuse(("row", (("bob", "cy"), ("bob", "cy"))), "ring", 1, goal=FIRST)
        # cy would rather keep the cot.
        likes = LIKES[:2] + (("cy", ("cot", "bed", "den")),)
        self.refuse(("row", SWAPS), "ring", 1, likes=likes)

    def test_short_of_the_goal(self):
        self.refuse(("row", ()), "goal", -1)
        self.refuse(("row", SWAPS[:1]), "goal", -1)
        self.refuse(("row", SWAPS), "goal", -1, goal=MIDDLE)

    def test_not_settled(self):
        self.refuse(("row", ()), "settled", ("bob", "cy"), goal=FIRST)
        self.refuse(("row", ()), "settled", TURN, goal=FIRST, sizes=(2, 3))
        self.refuse(("row", SWAPS[:1]), "settled", ("ann", "cy"), goal=MIDDLE)
        self.check(MORE, LIKES, FIRST, MIDDLE, ("row", SWAPS[:1]), (2,), ("settled", ("ann", "cy")))

    def test_the_order(self):
        self.refuse(("row", (("bob", "cy"), ("ann", "bob"), ())), "ring", 1, goal=FIRST)
        self.refuse(("row", ()), "goal", -1, goal=MIDDLE)


class OpenTests(CheckerTests):
    def test_open(self):
        self.check(MORE, LIKES, FIRST, FIRST, ("open", ("bob", "cy")), (2,), False)
        self.check(MORE, LIKES, FIRST, FIRST, ("open", TURN), (3,), False)
        self.check(MORE, LIKES, FIRST, MIDDLE, ("open", ("ann", "cy")), (2, HUGE), False)

    def test_any_fair_ring_will_do(self):
        for ring in (TURN, ("bob", "cy")):
            self.check(MORE, LIKES, FIRST, FIRST, ("open", ring), (2, 3), False)

    def test_begin_does_not_matter(self):
        for begin in (FIRST, MIDDLE, LAST):
            self.check(MORE, LIKES, begin, MIDDLE, ("open", ("ann", "cy")), (2,), False)

    def test_not_fair(self):
        for ring in ((), ("bob",), ("cy", "bob"), ("bob", "bob"), ("bob", "zoe"), ("ann", "bob"), TURN, ("ann", "cy")):
            self.refuse(("open", ring), "fair", -1, goal=FIRST)
        self.refuse(("open", ("bob", "cy")), "fair", -1, goal=FIRST, sizes=(3,))
        self.refuse(("open", ("bob", "cy")), "fair", -1, goal=FIRST, likes=PROUD)
        # It is fair in begin, and not in goal.
        self.refuse(("open", ("bob", "cy")), "fair", -1)


class ClosedTests(CheckerTests):
    def test_closed(self):
        self.check(MORE, PROUD, FIRST, LAST, ("closed", (FIRST,)), (2, 3), False)
        self.check(MORE, LIKES, LAST, FIRST, ("closed", (LAST,)), (2, 3), False)
        self.check(MORE, LIKES, FIRST, LAST, ("closed", (FIRST,)), (), False)
        # That goal is not settled does not matter here.
        self.check(MORE, LIKES, MIDDLE, FIRST, ("closed", (MIDDLE, LAST)), (2, 3), False)

    def test_closed_with_many(self):
        # Everybody likes the item held at first least of all, and the item of the next one best.
        accepts, begin = full(4), plain(4)
        items = [item for person, item in begin] * 2
        likes = tuple((person, tuple(items[at + 1:at + 5])) for at, (person, item) in enumerate(begin))
        found = 0
        for goal in all_holdings(accepts):
            paper = end_paper(accepts, likes, begin, goal)
            if paper[0] == "closed" and len(paper[1]) > 3:
                found += 1
                for at in range(len(paper[1])):
                    fewer = ("closed", paper[1][:at] + paper[1][at + 1:])
                    expected = told_end(accepts, likes, begin, goal, fewer, (2,))
                    self.check(accepts, likes, begin, goal, fewer, (2,),
                               expected[1] if expected[0] == "true" else expected)
                self.check(accepts, likes, begin, goal, paper, (2,), False)
        self.assertGreater(found, 0)

    def test_no_holding(self):
        for thing in NO_HOLDINGS:
            self.refuse(("closed", (thing,)), "holding", 0)
            self.refuse(("closed", (FIRST, thing)), "holding", 1)
            self.refuse(("closed", (LAST, FIRST, thing)), "rise", 1)

    def test_rise(self):
        self.refuse(("closed", (FIRST, FIRST)), "rise", 1)
        self.refuse(("closed", (FIRST, LAST, MIDDLE)), "rise", 2)

    def test_begin_and_goal(self):
        self.refuse(("closed", ()), "begin", -1)
        self.refuse(("closed", (LAST,)), "begin", -1)
        self.refuse(("closed", (FIRST, LAST)), "goal", -1)
        self.refuse(("closed", (FIRST,)), "goal", -1, goal=FIRST)

    def test_trade(self):
        self.refuse(("closed", (FIRST,)), "trade", (0, ("bob", "cy")))
        self.refuse(("closed", (FIRST,)), "trade", (0, TURN), sizes=(2, 3))
        self.refuse(("closed", (FIRST, MIDDLE)), "trade", (1, ("ann", "cy")))
        self.refuse(("closed", (FIRST, MIDDLE)), "trade", (0, TURN), sizes=(2, 3))


class ShapeTests(CheckerTests):
    def test_any_value(self):
        for thing in ANY:
            self.refuse(thing, "shape", -1)

    def test_words_and_lengths(self):
        for thing in NO_PAPERS + (
            ("open",), ("open", TURN, ()), ["open", TURN], ("opens", TURN), ("end", ()), ("effort", (), ()), ("settled", TURN),
        ):
            self.refuse(thing, "shape", -1)

    def test_parts(self):
        for part in STRANGE + (0, 2):
            self.refuse(("row", ((part, "cy"),)), "shape", -1)
            self.refuse(("row", (("bob", "cy"), part)), "shape", -1)
            self.refuse(("open", ("bob", part)), "shape", -1)
            self.refuse(("open", (part,)), "shape", -1)
            self.refuse(("closed", (FIRST, (part,))), "shape", -1)
            self.refuse(("closed", ((("ann", part),),)), "shape", -1)
        for rings in NO_NAMES:
            self.refuse(("row", rings), "shape", -1)
        for ring in (["bob", "cy"], "bob", None, 0, True, (("bob", "cy"),), FIRST):
            self.refuse(("open", ring), "shape", -1)
        for holdings in NO_PAIRS:
            self.refuse(("closed", holdings), "shape", -1)

    def test_the_shape_comes_first(self):
        self.refuse(("row", (("ann", "zoe"), ("bob", None))), "shape", -1)
        self.refuse(("closed", ((), LAST, (("ann", True),))), "shape", -1)

    def test_an_error_changes_nothing(self):
        thing = ["open", ["bob", "cy"]]
        self.assertEqual(told(lets_end, MORE, LIKES, FIRST, LAST, thing), ("shape", -1))
        self.assertEqual(thing, ["open", ["bob", "cy"]])

    def test_sizes_by_name_only(self):
        with self.assertRaises(TypeError):
            lets_end(MORE, LIKES, FIRST, LAST, ("row", SWAPS), (2,))


class ModelTests(CheckerTests):
    def compare(self, accepts, likes, begin, goal, thing, sizes):
        found = told(lets_end, accepts, likes, begin, goal, thing, sizes=sizes)
        expected = told_end(accepts, likes, begin, goal, thing, sizes)
        self.assertEqual(found, expected, (accepts, likes, begin, goal, thing, sizes))
        if found[0] == "true":
            known = reached(begin, lambda holding: fair_steps(accepts, likes, holding, sizes))
            self.assertIs(found[1], goal in known and not fair_steps(accepts, likes, goal, sizes))
        return found[0]

    def test_changed_papers(self):
        words = set()
        for seed, (accepts, begin, goal) in enumerate(cases()):
            likes = likes_of(accepts, seed)
            holdings = tuple(all_holdings(accepts))
            for sizes in ((2,), (2, 3), (2, 3, 4)):
                rings = [ring for holding in holdings[:4] for ring, after in fair_steps(accepts, likes, holding, sizes)]
                papers = [end_paper(accepts, likes, begin, to, sizes=sizes) for to in (begin, goal, holdings[-1])]
                papers += [("closed", holdings[:6])] + [("open", ring) for ring in rings[:2]]
                for thing in papers + wrong_papers(seed, papers, pool_of(accepts) + rings, 30):
                    words.add(self.compare(accepts, likes, begin, goal, thing, sizes))
                # Rows to where they lead, settled or not.
                for ring, after in [((), begin)] + fair_steps(accepts, likes, begin, sizes):
                    thing = ("row", (ring,) if ring else ())
                    words.add(self.compare(accepts, likes, begin, after, thing, sizes))
        expected = {"true", "shape", "ring", "goal", "settled", "fair", "holding", "rise", "begin", "trade"}
        self.assertEqual(words, expected)

    def test_papers_for_another_goal_other_likes_and_other_sizes(self):
        for accepts in (THREE, MORE, full(3)):
            some = [likes_of(accepts, seed) for seed in range(4)]
            holdings = all_holdings(accepts)
            papers = [end_paper(accepts, likes, begin, goal, sizes=sizes) for likes in some for begin in holdings[:2]
                      for goal in holdings[:3] for sizes in ((), (2,), (2, 3))]
            for likes in some:
                for goal in holdings[:3]:
                    for sizes in ((), (2,), (3,), (2, 3)):
                        for thing in papers:
                            self.compare(accepts, likes, holdings[0], goal, thing, sizes)
