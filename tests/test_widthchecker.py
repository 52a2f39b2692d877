"""[2], [8], [9], [28], [29]: the checker of width papers."""

import unittest

from handround.errors import InvalidPaper
from handround.widthchecker import lets_width
from handround.widthpapers import width_paper
from handround.widths import width
from tests.calls import asked, raises, returns
from tests.papermodel import (
    NO_HOLDINGS, NO_NAMES, NO_PAIRS, NO_RINGS, cases, pool_of, told, told_width, wrong_papers,
)
from tests.samples import (
    ANY, FIRST, FIRST_HELPED, HELPED, HUGE, LAST, LAST_HELPED, MORE, PEOPLE, STRANGE, THREE, all_holdings, circle, full,
    plain, turned,
)

TURN = ("ann", "cy", "bob")
SWAPS = (("bob", "cy"), ("ann", "cy"))
MIDDLE = (("ann", "bed"), ("bob", "den"), ("cy", "cot"))
SIXTY = 10 ** 60 - 1


class CheckerTests(unittest.TestCase):
    def check(self, accepts, begin, goal, thing, expected):
        is_error = isinstance(expected, tuple)
        given = {"accepts": accepts, "begin": begin, "goal": goal, "thing": thing}
        wanted = raises(InvalidPaper, *expected) if is_error else returns(expected)
        self.assertEqual(asked(self, lets_width, given), wanted, given)
        self.assertEqual(told_width(*given.values()), expected if is_error else ("true", expected), given)

    def refuse(self, thing, word, at, accepts=MORE):
        """That it is no paper of how wide it is from FIRST to LAST."""
        self.check(accepts, FIRST, LAST, thing, (word, at))


class AcceptedTests(CheckerTests):
    def test_example(self):
        self.check(THREE, FIRST, LAST, (3, (TURN,), (FIRST,)), 3)

    def test_by_hand(self):
        self.check(MORE, FIRST, LAST, (2, SWAPS, (FIRST,)), 2)
        self.check(MORE, FIRST, LAST, (2, SWAPS, (FIRST, MIDDLE)), 2)
        self.check(MORE, FIRST, LAST, (2, (("bob", "cy"), ("bob", "cy")) + SWAPS, (FIRST,)), 2)
        self.check(THREE, FIRST, LAST, (3, (TURN, ("ann", "bob", "cy"), TURN), (FIRST,)), 3)
        help_of_dan = (("ann", "dan"), ("cy", "dan"), ("bob", "dan"), ("ann", "dan"))
        self.check(HELPED, FIRST_HELPED, LAST_HELPED, (2, help_of_dan, (FIRST_HELPED,)), 2)

    def test_equal_holdings(self):
        self.check(THREE, FIRST, FIRST, (1, (), ()), 1)
        self.check(full(3), LAST, LAST, (1, (), ()), 1)

    def test_as_many_as_there_are(self):
        for many in range(2, 9):
            ring = PEOPLE[:1] + PEOPLE[many - 1:0:-1]
            self.check(circle(many), plain(many), turned(many), (many, (ring,), (plain(many),)), many)


class RefusedTests(CheckerTests):
    def test_the_number_is_0(self):
        for rings, holdings in (((), ()), (SWAPS, (FIRST,)), (((),), ((),)), ((TURN,), ())):
            self.refuse((0, rings, holdings), "number", -1)
            self.check(MORE, FIRST, FIRST, (0, rings, holdings), ("number", -1))

    def test_no_ring_or_not_allowed(self):
        for ring in NO_RINGS:
            self.refuse((2, (ring, ("ann", "cy")), (FIRST,)), "ring", 0)
            self.refuse((3, (("bob", "cy"), ring), (FIRST,)), "ring", 1)
            self.refuse((SIXTY, (ring,), (FIRST,)), "ring", 0)
        self.refuse((2, (TURN,), (FIRST,)), "ring", 0)
        self.refuse((1, SWAPS, ()), "ring", 0)
        self.refuse((1, (("zoe", "yan"),), ()), "ring", 0)
        self.refuse((3, (PEOPLE[:4],), (FIRST,)), "ring", 0)

    def test_not_possible(self):
        self.refuse((2, SWAPS[::-1], (FIRST,)), "possible", 0)
        self.refuse((2, (("bob", "cy"), ("bob", "zoe")), (FIRST,)), "possible", 1)
        self.refuse((2, (("bob", "cy"), ("ann", "bob")), (FIRST,)), "possible", 1)

    def test_rings_with_more_names_than_there_are_people(self):
        for ring in (PEOPLE[:4], PEOPLE, tuple(sorted(PEOPLE + ("a", "b", "zoe")))):
            self.refuse((len(ring), (ring,), (FIRST,)), "possible", 0)
            self.refuse((HUGE, (ring,), (FIRST,)), "possible", 0)
            self.refuse((len(ring) - 1, (ring,), (FIRST,)), "ring", 0)
        long = tuple("a" + one + other for one in "abcdefghij" for other in "abcdefghi")
        self.refuse((90, (long,), (FIRST,)), "possible", 0)
        self.refuse((89, (long,), (FIRST,)), "ring", 0)

    def test_another_holding_at_the_end(self):
        self.refuse((2, (), (FIRST,)), "goal", -1)
        self.refuse((1, (), ()), "goal", -1)
        self.refuse((2, SWAPS[:1], (FIRST,)), "goal", -1)
        self.refuse((SIXTY, (), (FIRST,)), "goal", -1)

    def test_holdings_too_many(self):
        for holdings in ((FIRST,), (LAST,), ((),), (MORE,), (FIRST, MIDDLE)):
            self.check(MORE, FIRST, FIRST, (1, (), holdings), ("extra", -1))
        self.refuse((1, (), (FIRST,)), "goal", -1)

    def test_no_holding_and_not_ascending(self):
        for thing in NO_HOLDINGS:
            self.refuse((2, SWAPS, (thing,)), "holding", 0)
            self.refuse((2, SWAPS, (FIRST, thing)), "holding", 1)
        self.refuse((2, SWAPS, (FIRST, FIRST)), "holding", 1)
        self.refuse((2, SWAPS, (FIRST, LAST, MIDDLE)), "holding", 2)

    def test_begin_and_goal(self):
        self.refuse((2, SWAPS, ()), "begin", -1)
        self.refuse((2, SWAPS, (MIDDLE,)), "begin", -1)
        self.refuse((2, SWAPS, (FIRST, LAST)), "goal", -1)
        self.check(MORE, FIRST, FIRST, (2, (), ()), ("begin", -1))
        self.check(MORE, FIRST, FIRST, (2, (), (FIRST,)), ("goal", -1))

    def test_open(self):
        self.refuse((3, SWAPS, (FIRST,)), "open", 0)
        self.refuse((3, (TURN,), (FIRST, MIDDLE)), "open", 1)
        self.refuse((4, (TURN,), (FIRST, MIDDLE)), "open", 0)
        self.refuse((4, (TURN,), (FIRST,)), "open", 0, THREE)

    def test_numbers_of_sixty_digits(self):
        for number in (4, 10, HUGE, HUGE + 1, SIXTY):
            self.refuse((number, (TURN,), (FIRST,)), "open", 0)
            self.refuse((number, SWAPS, ()), "begin", -1)
            self.refuse((number, SWAPS, (FIRST, LAST)), "goal", -1)

    def test_which_one_comes_first(self):
        self.refuse((0, ((),), ((),)), "number", -1)
        self.refuse((2, ((),), ((),)), "ring", 0)
        self.refuse((2, (("ann", "bob"), ()), ()), "possible", 0)
        self.refuse((2, (), ((),)), "goal", -1)
        self.refuse((1, SWAPS, (FIRST,)), "ring", 0)
        self.refuse((2, SWAPS, ((), FIRST)), "holding", 0)
        self.refuse((3, SWAPS, (MIDDLE, FIRST)), "holding", 1)
        self.refuse((3, SWAPS, (MIDDLE, LAST)), "begin", -1)
        self.refuse((3, SWAPS, (FIRST, LAST)), "goal", -1)


class ShapeTests(CheckerTests):
    def test_any_value(self):
        for thing in ANY:
            self.refuse(thing, "shape", -1)

    def test_any_value_as_a_part(self):
        for part in ANY:
            for thing in ((part, SWAPS, (FIRST,)), (2, part, (FIRST,)), (2, SWAPS, part)):
                expected = told_width(MORE, FIRST, LAST, thing)
                self.check(MORE, FIRST, LAST, thing, 2 if expected == ("true", 2) else expected)
        for part in STRANGE:
            self.refuse((part, SWAPS, (FIRST,)), "shape", -1)

    def test_the_number(self):
        for number in (True, False, None, -1, "2", (2,), [2], "", -HUGE, ()):
            self.refuse((number, SWAPS, (FIRST,)), "shape", -1)
            self.check(MORE, FIRST, FIRST, (number, (), ()), ("shape", -1))

    def test_lengths(self):
        for thing in ((), (2,), (2, SWAPS), (2, SWAPS, (FIRST,), ()), [2, SWAPS, (FIRST,)], (SWAPS, 2, (FIRST,)),
                      ((2, SWAPS, (FIRST,)),), ("row", SWAPS), (2, (FIRST,), SWAPS)):
            self.refuse(thing, "shape", -1)

    def test_parts(self):
        for part in STRANGE + (0, 2):
            self.refuse((2, ((part, "cy"),), (FIRST,)), "shape", -1)
            self.refuse((2, (("bob", "cy"), part), (FIRST,)), "shape", -1)
            self.refuse((2, SWAPS, (FIRST, (part,))), "shape", -1)
            self.refuse((2, SWAPS, ((("ann", part),),)), "shape", -1)
        for rings in NO_NAMES:
            self.refuse((2, rings, (FIRST,)), "shape", -1)
        for holdings in NO_PAIRS:
            self.refuse((2, SWAPS, holdings), "shape", -1)

    def test_the_shape_comes_first(self):
        self.refuse((0, (("ann", None),), ()), "shape", -1)
        self.refuse((0, (), [FIRST]), "shape", -1)
        self.refuse((1, ((),), (FIRST, None)), "shape", -1)

    def test_an_error_changes_nothing(self):
        thing = [2, [["bob", "cy"]], [[["ann", "bed"]]]]
        self.assertEqual(told(lets_width, MORE, FIRST, LAST, thing), ("shape", -1))
        self.assertEqual(thing, [2, [["bob", "cy"]], [[["ann", "bed"]]]])


class ModelTests(CheckerTests):
    def compare(self, accepts, begin, goal, thing):
        found = told(lets_width, accepts, begin, goal, thing)
        self.assertEqual(found, told_width(accepts, begin, goal, thing), (accepts, begin, goal, thing))
        if found[0] == "true":
            self.assertEqual(found[1], width(accepts, begin, goal))
        return found[0]

    def test_changed_papers(self):
        words = set()
        for seed, (accepts, begin, goal) in enumerate(cases()):
            number, rings, holdings = width_paper(accepts, begin, goal)
            papers = [(number, rings, holdings), (number + 1, rings, holdings), (number, rings, (begin,)),
                      (number, rings, tuple(all_holdings(accepts)[:5])), (1, (), ())]
            for thing in wrong_papers(seed, papers, pool_of(accepts), 60):
                words.add(self.compare(accepts, begin, goal, thing))
        wanted = {"true", "shape", "number", "ring", "possible", "goal", "extra", "holding", "begin", "open"}
        self.assertEqual(words, wanted)

    def test_papers_for_another_goal(self):
        for accepts in (THREE, MORE, full(3)):
            holdings = all_holdings(accepts)
            papers = [width_paper(accepts, begin, goal) for begin in holdings[:3] for goal in holdings]
            for begin in holdings[:3]:
                for goal in holdings:
                    # [29]: papers with only one number are accepted.
                    numbers = {thing[0] for thing in papers if self.compare(accepts, begin, goal, thing) == "true"}
                    self.assertEqual(numbers, {width(accepts, begin, goal)})
