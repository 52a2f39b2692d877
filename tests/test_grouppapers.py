"""[2], [8], [43], [52]: group papers."""

import unittest

from handround.errors import UnknownPerson
from handround.groupchecker import lets_group
from handround.grouppapers import group_paper
from handround.groups import least_groups, with_group
from tests.calls import asked, raises, returns
from tests.papermodel import ALL_SIZES, cases, group_steps, parts, reached, told_group
from tests.samples import (
    FIRST, FIRST_HELPED, HELPED, HUGE, LAST, LAST_HELPED, MORE, PEOPLE, THREE, after_rings, all_holdings, circle, full,
    plain, some_accepts, turned,
)

ALL = ("ann", "bob", "cy")
TURN = ("ann", "cy", "bob")
MIDDLE = (("ann", "bed"), ("bob", "den"), ("cy", "cot"))


class PaperTests(unittest.TestCase):
    def check(self, accepts, begin, goal, group, sizes):
        given = {"accepts": accepts, "begin": begin, "goal": goal, "group": group}
        paper = group_paper(accepts, begin, goal, group, sizes=sizes)
        self.assertEqual(asked(self, group_paper, given, sizes=sizes), returns(paper))
        known = reached(begin, lambda holding: group_steps(accepts, holding, group, sizes))
        self.assertEqual(told_group(accepts, begin, goal, group, paper, sizes), ("true", goal in known))
        self.assertIs(lets_group(accepts, begin, goal, group, paper, sizes=sizes), goal in known)
        self.assertIs(with_group(accepts, begin, goal, group, sizes=sizes), goal in known)
        self.assertEqual(paper[0], "row" if goal in known else "closed")
        return paper

    def test_by_hand(self):
        self.assertEqual(self.check(MORE, FIRST, LAST, ALL, (2,)), ("row", (("bob", "cy"), ("ann", "cy"))))
        self.assertEqual(self.check(MORE, FIRST, LAST, ("bob", "cy"), (2,)), ("closed", (FIRST, MIDDLE)))
        self.assertEqual(self.check(MORE, FIRST, LAST, ("ann", "bob"), (2, 3)), ("closed", (FIRST,)))
        self.assertEqual(self.check(THREE, FIRST, LAST, ALL, (2,)), ("closed", (FIRST,)))
        self.assertEqual(self.check(THREE, FIRST, LAST, ALL, (3,)), ("row", (TURN,)))
        paper = self.check(HELPED, FIRST_HELPED, LAST_HELPED, PEOPLE[:4], (2,))
        self.assertEqual(len(paper[1]), 4)
        self.assertEqual(self.check(HELPED, FIRST_HELPED, LAST_HELPED, ALL, (2,))[0], "closed")

    def test_against_the_checker_of_the_words(self):
        words = set()
        for accepts, begin, goal in cases():
            for sizes in ALL_SIZES:
                for group in parts(sorted(dict(accepts))):
                    words.add(self.check(accepts, begin, goal, group, sizes)[0])
        self.assertEqual(words, {"row", "closed"})

    def test_equal_holdings(self):
        for group in parts(ALL):
            for sizes in ((), (2,), (2, 3), (HUGE,)):
                self.assertEqual(self.check(full(3), LAST, LAST, group, sizes), ("row", ()))

    def test_nobody(self):
        for sizes in ((), (2, 3), (HUGE,)):
            self.assertEqual(self.check(full(3), FIRST, LAST, (), sizes), ("closed", (FIRST,)))

    def test_no_sizes_and_sizes_above_the_number_of_people(self):
        for sizes in ((), (4,), (5, 8), (HUGE,)):
            self.assertEqual(self.check(full(3), FIRST, LAST, ALL, sizes), ("closed", (FIRST,)))
        self.assertEqual(self.check(full(3), FIRST, LAST, ALL, (3, HUGE)), ("row", (TURN,)))

    def test_minimal_groups(self):
        for seed in range(4):
            accepts = some_accepts(seed, 5, 10)
            begin, *goals = all_holdings(accepts)
            for goal in goals[::7]:
                for group in least_groups(accepts, begin, goal):
                    self.assertEqual(self.check(accepts, begin, goal, group, (2,))[0], "row")
                    for person in group:
                        fewer = tuple(one for one in group if one != person)
                        self.assertEqual(self.check(accepts, begin, goal, fewer, (2,))[0], "closed")

    def test_six_people(self):
        goal = after_rings(6, ("ann", "cy", "eve"))
        group = ("ann", "bob", "cy", "eve")
        self.assertEqual(self.check(full(6), plain(6), goal, group, (4,))[0], "row")
        self.assertEqual(self.check(full(6), plain(6), goal, group, (6,)), ("closed", (plain(6),)))
        paper = group_paper(full(6), plain(6), goal, ("ann", "bob", "cy", "dan"))
        self.assertEqual((paper[0], len(paper[1])), ("closed", 24))
        self.assertEqual(self.check(circle(6), plain(6), turned(6), PEOPLE[:5], (2, 6)), ("closed", (plain(6),)))

    def test_unknown_person(self):
        for group, person in ((("ann", "zoe"), "zoe"), (("aa", "ann", "zoe"), "aa"), (("bed",), "bed"),
                              (ALL + ("dan",), "dan")):
            for goal in (FIRST, LAST):
                given = {"accepts": MORE, "begin": FIRST, "goal": goal, "group": group}
                for sizes in ((2,), ()):
                    self.assertEqual(asked(self, group_paper, given, sizes=sizes), raises(UnknownPerson, person))

    def test_sizes_by_name_only(self):
        with self.assertRaises(TypeError):
            group_paper(MORE, FIRST, LAST, ALL, (2,))
