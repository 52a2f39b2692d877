"""[2], [8], [9], [41], [43]: the checker of group papers."""

import unittest

from handround.errors import UnknownPerson
from handround.groupchecker import lets_group
from handround.groups import with_group
from tests.calls import asked, checked, raises
from tests.papermodel import (
    NO_HOLDINGS, NO_NAMES, NO_PAIRS, NO_PAPERS, NO_RINGS, cases, group_steps, parts, pool_of, reached, row_or_closed,
    told, told_group, wrong_papers,
)
from tests.samples import (
    ANY, FIRST, FIRST_HELPED, HELPED, HUGE, LAST, LAST_HELPED, MORE, PEOPLE, STRANGE, THREE, after_rings, all_holdings,
    circle, full, plain, turned,
)

ALL = ("ann", "bob", "cy")
TURN = ("ann", "cy", "bob")
MIDDLE = (("ann", "bed"), ("bob", "den"), ("cy", "cot"))
SWAPS = (("bob", "cy"), ("ann", "cy"))
HELP = (("ann", "dan"), ("cy", "dan"), ("bob", "dan"), ("ann", "dan"))


def right_paper(accepts, begin, goal, group, sizes):
    return row_or_closed(begin, goal, lambda holding: group_steps(accepts, holding, group, sizes))


class CheckerTests(unittest.TestCase):
    def check(self, accepts, begin, goal, group, thing, sizes, expected):
        given = {"accepts": accepts, "begin": begin, "goal": goal, "group": group, "thing": thing}
        checked(self, lets_group, told_group, given, sizes, expected)

    def refuse(self, thing, word, at, accepts=MORE, sizes=(2,), group=ALL):
        """That it is no paper of how to get from FIRST to LAST."""
        self.check(accepts, FIRST, LAST, group, thing, sizes, (word, at))


class RowTests(CheckerTests):
    def test_rows(self):
        self.check(MORE, FIRST, LAST, ALL, ("row", SWAPS), (2,), True)
        self.check(MORE, FIRST, LAST, ALL, ("row", (TURN,)), (3, HUGE), True)
        self.check(MORE, FIRST, LAST, ALL, ("row", (("bob", "cy"), ("bob", "cy")) + SWAPS), (2,), True)
        self.check(MORE, FIRST, MIDDLE, ("bob", "cy"), ("row", SWAPS[:1]), (2,), True)
        self.check(MORE, FIRST, FIRST, (), ("row", ()), (), True)
        self.check(HELPED, FIRST_HELPED, LAST_HELPED, PEOPLE[:4], ("row", HELP), (2,), True)

    def test_no_ring(self):
        for ring in NO_RINGS:
            self.refuse(("row", (ring, ("ann", "cy"))), "ring", 0)
            self.refuse(("row", (("bob", "cy"), ring)), "ring", 1)

    def test_not_of_the_group(self):
        for group, at in (((), 0), (("ann",), 0), (("ann", "bob"), 0), (("ann", "cy"), 0), (("bob", "cy"), 1)):
            self.refuse(("row", SWAPS), "ring", at, group=group)
        self.check(HELPED, FIRST_HELPED, LAST_HELPED, PEOPLE[:3], ("row", HELP), (2,), ("ring", 0))
        self.check(HELPED, FIRST_HELPED, LAST_HELPED, ("ann", "cy", "dan"), ("row", HELP), (2,), ("ring", 2))

    def test_not_allowed(self):
        self.refuse(("row", (TURN,)), "ring", 0)
        self.refuse(("row", SWAPS), "ring", 0, sizes=(3,))
        self.refuse(("row", SWAPS), "ring", 0, sizes=())

    def test_not_possible(self):
        self.refuse(("row", SWAPS[::-1]), "ring", 0)
        self.refuse(("row", (("bob", "cy"), ("bob", "zoe"))), "ring", 1)
        self.refuse(("row", (("bob", "cy"), ("ann", "bob"))), "ring", 1)

    def test_short_of_the_goal(self):
        self.refuse(("row", ()), "goal", -1)
        self.refuse(("row", SWAPS[:1]), "goal", -1)
        self.refuse(("row", SWAPS + SWAPS[1:]), "goal", -1)
        self.refuse(("row", ()), "goal", -1, group=())

    def test_the_first_ring_comes_ahead_of_the_goal_and_of_later_ones(self):
        self.refuse(("row", (("bob", "cy"), ("ann", "bob"), ())), "ring", 1)


class ClosedTests(CheckerTests):
    def test_closed(self):
        self.check(THREE, FIRST, LAST, ALL, ("closed", (FIRST,)), (2,), False)
        self.check(MORE, FIRST, LAST, ALL, ("closed", (FIRST, MIDDLE)), (4, 5), False)
        self.check(MORE, FIRST, LAST, ("ann", "bob"), ("closed", (FIRST,)), (2, 3), False)
        self.check(MORE, FIRST, LAST, ("bob", "cy"), ("closed", (FIRST, MIDDLE)), (2, 3), False)
        self.check(MORE, FIRST, LAST, (), ("closed", (FIRST,)), (2, 3), False)

    def test_closed_with_many(self):
        begin, goal = all_holdings(full(4))[0], all_holdings(full(4))[-2]
        paper = right_paper(full(4), begin, goal, ("ann", "bob", "dan"), (2,))
        self.assertEqual(len(paper[1]), 6)
        for at in range(6):
            fewer = ("closed", paper[1][:at] + paper[1][at + 1:])
            expected = told_group(full(4), begin, goal, ("ann", "bob", "dan"), fewer, (2,))
            self.assertEqual(expected[0], "trade" if at else "begin")
            self.check(full(4), begin, goal, ("ann", "bob", "dan"), fewer, (2,), expected)

    def test_no_holding(self):
        for thing in NO_HOLDINGS:
            self.refuse(("closed", (thing,)), "holding", 0)
            self.refuse(("closed", (FIRST, thing)), "holding", 1)
            self.refuse(("closed", (LAST, FIRST, thing)), "rise", 1)

    def test_rise(self):
        self.refuse(("closed", (FIRST, FIRST)), "rise", 1)
        self.refuse(("closed", (FIRST, LAST, MIDDLE)), "rise", 2)

    def test_begin_and_goal(self):
        self.refuse(("closed", ()), "begin", -1)
        self.refuse(("closed", (LAST,)), "begin", -1)
        self.refuse(("closed", (FIRST, LAST)), "goal", -1)
        self.check(MORE, FIRST, FIRST, (), ("closed", (FIRST,)), (2,), ("goal", -1))

    def test_trade(self):
        self.refuse(("closed", (FIRST,)), "trade", (0, ("bob", "cy")))
        self.refuse(("closed", (FIRST,)), "trade", (0, ("bob", "cy")), group=("bob", "cy"), sizes=(2, 3))
        self.refuse(("closed", (FIRST,)), "trade", (0, TURN), sizes=(2, 3))
        self.refuse(("closed", (FIRST, MIDDLE)), "trade", (1, ("ann", "cy")))
        self.refuse(("closed", (FIRST, MIDDLE)), "trade", (0, TURN), sizes=(2, 3))
        self.refuse(("closed", (FIRST,)), "trade", (0, ("ann", "bob")), full(3), (2, 3))
        swapped = (("ann", "cot"), ("bob", "bed"), ("cy", "den"))
        self.refuse(("closed", (FIRST, swapped)), "trade", (0, ("ann", "cy")), full(3))
        self.check(full(3), FIRST, LAST, ("ann", "bob"), ("closed", (FIRST, swapped)), (2,), False)


class PersonTests(CheckerTests):
    def check_unknown(self, group, person, thing):
        given = {"accepts": MORE, "begin": FIRST, "goal": LAST, "group": group, "thing": thing}
        self.assertEqual(asked(self, lets_group, given, sizes=(2,)), raises(UnknownPerson, person))

    def test_ahead_of_every_invalid_paper(self):
        for group, person in ((("ann", "zoe"), "zoe"), (("aa", "ann", "zoe"), "aa"), (("bed",), "bed"),
                              (ALL + ("dan",), "dan")):
            for thing in (None, ("row", SWAPS), ("row", ((),)), ("closed", (FIRST,)), ("closed", ()), ("row", ()), True):
                self.check_unknown(group, person, thing)

    def test_the_very_object(self):
        group = ("ann", "z" * 7)
        with self.assertRaises(UnknownPerson) as caught:
            lets_group(MORE, FIRST, LAST, group, None)
        self.assertIs(caught.exception.person, group[1])


class ShapeTests(CheckerTests):
    def test_any_value(self):
        for thing in ANY:
            self.refuse(thing, "shape", -1)
            self.refuse(thing, "shape", -1, group=())

    def test_words_and_lengths(self):
        for thing in NO_PAPERS + (
            ("effort", (), ()), ("open", TURN),
        ):
            self.refuse(thing, "shape", -1)

    def test_parts(self):
        for part in STRANGE + (0, 2):
            self.refuse(("row", ((part, "cy"),)), "shape", -1)
            self.refuse(("row", (("bob", "cy"), part)), "shape", -1)
            self.refuse(("closed", (FIRST, (part,))), "shape", -1)
            self.refuse(("closed", ((("ann", part),),)), "shape", -1)
        for rings in NO_NAMES:
            self.refuse(("row", rings), "shape", -1)
        for holdings in NO_PAIRS:
            self.refuse(("closed", holdings), "shape", -1)

    def test_the_shape_comes_first(self):
        self.refuse(("row", (("ann", "zoe"), ("bob", None))), "shape", -1)
        self.refuse(("closed", ((), LAST, (("ann", True),))), "shape", -1)

    def test_an_error_changes_nothing(self):
        thing = ["row", [["bob", "cy"]]]
        self.assertEqual(told(lets_group, MORE, FIRST, LAST, ALL, thing), ("shape", -1))
        self.assertEqual(thing, ["row", [["bob", "cy"]]])

    def test_sizes_by_name_only(self):
        with self.assertRaises(TypeError):
            lets_group(MORE, FIRST, LAST, ALL, ("row", SWAPS), (2,))


class ModelTests(CheckerTests):
    def compare(self, accepts, begin, goal, group, thing, sizes):
        found = told(lets_group, accepts, begin, goal, group, thing, sizes=sizes)
        expected = told_group(accepts, begin, goal, group, thing, sizes)
        self.assertEqual(found, expected, (accepts, begin, goal, group, thing, sizes))
        if found[0] == "true":
            known = reached(begin, lambda holding: group_steps(accepts, holding, group, sizes))
            self.assertIs(found[1], goal in known)
            self.assertIs(with_group(accepts, begin, goal, group, sizes=sizes), found[1])
        return found[0]

    def test_right_papers(self):
        for accepts, begin, goal in cases():
            for sizes in ((2,), (2, 3), (3,), ()):
                for group in parts(sorted(dict(accepts))):
                    paper = right_paper(accepts, begin, goal, group, sizes)
                    self.assertEqual(self.compare(accepts, begin, goal, group, paper, sizes), "true")

    def test_six_people(self):
        goal = after_rings(6, ("ann", "cy", "eve"))
        group = ("ann", "bob", "cy", "eve")
        for sizes, word in (((4,), "row"), ((2, 3), "row"), ((6,), "closed")):
            paper = right_paper(full(6), plain(6), goal, group, sizes)
            self.assertEqual(paper[0], word)
            self.check(full(6), plain(6), goal, group, paper, sizes, word == "row")
        self.check(circle(6), plain(6), turned(6), PEOPLE[:5], ("closed", (plain(6),)), (2, 3, 4, 5, 6), False)

    def test_changed_papers(self):
        words = set()
        for seed, (accepts, begin, goal) in enumerate(cases()):
            groups = parts(sorted(dict(accepts)))
            for at, sizes in enumerate(((2,), (2, 3), (2, 3, 4))):
                group = groups[-1] if seed % 2 else groups[(seed + 3 * at) % len(groups)]
                papers = [right_paper(accepts, begin, goal, some, sizes) for some in (groups[-1], group, groups[1])]
                papers.append(("closed", tuple(all_holdings(accepts)[:6])))
                for thing in wrong_papers(seed, papers, pool_of(accepts), 40):
                    words.add(self.compare(accepts, begin, goal, group, thing, sizes))
        self.assertEqual(words, {"true", "shape", "ring", "goal", "holding", "rise", "begin", "trade"})

    def test_papers_for_another_goal_another_group_and_other_sizes(self):
        for accepts in (THREE, MORE, full(3)):
            groups = parts(ALL)
            holdings = all_holdings(accepts)
            papers = [right_paper(accepts, begin, goal, group, sizes) for begin in holdings[:2]
                      for goal in holdings[:3] for group in groups[3:] for sizes in ((), (2,), (2, 3))]
            for goal in holdings[:3]:
                for group in groups:
                    for sizes in ((), (2,), (3,), (2, 3)):
                        for thing in papers:
                            self.compare(accepts, holdings[0], goal, group, thing, sizes)
