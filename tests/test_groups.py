"""[2], [8], [41], [42], [52]: groups."""

import random
import unittest

from handround.errors import UnknownPair, UnknownPerson
from handround.groups import groups_for, least_groups, least_helpers, with_group
from handround.reaching import reachable
from tests.calls import asked, raises, returns
from tests.papermodel import ALL_SIZES, cases, group_steps, parts, reached
from tests.samples import (
    BOTH, FIRST, FIRST_HELPED, HELPED, HUGE, LAST, LAST_HELPED, MORE, PEOPLE, SAME, THREE, after_rings, all_accepts,
    all_holdings, all_steps, circle, full, plain, rings_between, some_accepts, turned,
)

PICK = {"accepts": HELPED, "begin": FIRST_HELPED, "goal": LAST_HELPED}


def reached_by(accepts, begin, group, sizes):
    return reached(begin, lambda holding: group_steps(accepts, holding, group, sizes))


def minimal(groups):
    return tuple(sorted(one for one in groups if not any(set(other) < set(one) for other in groups)))


def people(accepts):
    return tuple(sorted(dict(accepts)))


class WithGroupTests(unittest.TestCase):
    def check(self, accepts, begin, goal, group, sizes, expected):
        given = {"accepts": accepts, "begin": begin, "goal": goal, "group": group}
        self.assertEqual(asked(self, with_group, given, sizes=sizes), returns(expected), (given, sizes))

    def test_by_hand(self):
        self.check(MORE, FIRST, LAST, ("ann", "bob", "cy"), (2,), True)
        for group in ((), ("ann",), ("ann", "bob"), ("ann", "cy"), ("bob", "cy")):
            self.check(MORE, FIRST, LAST, group, (2, 3), False)
        self.check(HELPED, FIRST_HELPED, LAST_HELPED, PEOPLE[:3], (2,), False)
        self.check(HELPED, FIRST_HELPED, LAST_HELPED, PEOPLE[:3], (2, 3), True)
        self.check(HELPED, FIRST_HELPED, LAST_HELPED, PEOPLE[:4], (2,), True)

    def test_equal_holdings(self):
        for group in parts(people(MORE)):
            for sizes in ALL_SIZES:
                self.check(MORE, LAST, LAST, group, sizes, True)

    def test_against_all_rows_of_the_group(self):
        for accepts, begin, goal in cases():
            for sizes in ALL_SIZES:
                for group in parts(people(accepts)):
                    known = reached_by(accepts, begin, group, sizes)
                    self.check(accepts, begin, goal, group, sizes, goal in known)

    def test_six_people(self):
        chance = random.Random(2)
        for seed in range(5):
            accepts = some_accepts(seed, 6, 12)
            holdings = all_holdings(accepts)
            for sizes in ((2,), (3,), (2, 3)):
                begin = chance.choice(holdings)
                for group in parts(people(accepts))[::5]:
                    known = sorted(reached_by(accepts, begin, group, sizes))
                    for goal in (chance.choice(known), chance.choice(holdings)):
                        self.check(accepts, begin, goal, group, sizes, goal in known)

    def test_all_people(self):
        for accepts, begin, goal in cases():
            for sizes in ALL_SIZES:
                expected = goal in reachable(accepts, begin, sizes=sizes)
                self.check(accepts, begin, goal, people(accepts), sizes, expected)

    def test_no_sizes_and_sizes_above_the_number_of_people(self):
        for sizes in ((), (4,), (5, 8), (HUGE,)):
            self.check(full(3), FIRST, LAST, PEOPLE[:3], sizes, False)
        self.check(full(3), FIRST, LAST, PEOPLE[:3], (3, HUGE), True)
        # A size above that of the group.
        self.check(full(4), plain(4), after_rings(4, ("ann", "bob")), ("ann", "bob"), (3,), False)

    def test_the_people_of_a_trade(self):
        for ring, after in all_steps(full(4), plain(4), (2, 3)):
            self.check(full(4), plain(4), after, tuple(sorted(ring)), (2, 3), True)
            for name in ring:
                self.check(full(4), plain(4), after, tuple(sorted(set(PEOPLE[:4]) - {name})), (2, 3), False)

    def test_unknown_person(self):
        for group, person in ((("ann", "zoe"), "zoe"), (("aa", "ann", "zoe"), "aa"), (("bed",), "bed"),
                              (("ann", "bobby", "cy", "zoe"), "bobby")):
            given = {"accepts": MORE, "begin": FIRST, "goal": LAST, "group": group}
            self.assertEqual(asked(self, with_group, given, sizes=(2,)), raises(UnknownPerson, person))
            self.assertEqual(asked(self, with_group, {**given, "goal": FIRST}, sizes=()), raises(UnknownPerson, person))
        group = ("ann", "z" * 7)
        with self.assertRaises(UnknownPerson) as caught:
            with_group(MORE, FIRST, LAST, group)
        self.assertIs(caught.exception.person, group[1])

    def test_sizes_by_name_only(self):
        with self.assertRaises(TypeError):
            with_group(MORE, FIRST, LAST, (), (2,))
        for function in (least_groups, least_helpers):
            with self.assertRaises(TypeError):
                function(MORE, FIRST, LAST, (2,))
        with self.assertRaises(TypeError):
            groups_for(MORE, FIRST, "ann", "bed", (2,))


class LeastGroupsTests(unittest.TestCase):
    def check(self, accepts, begin, goal, sizes):
        given = {"accepts": accepts, "begin": begin, "goal": goal}
        expected = minimal([group for group in parts(people(accepts))
                            if goal in reached_by(accepts, begin, group, sizes)])
        moving = {name for ring in rings_between(begin, goal) for name in ring}
        helpers = tuple(sorted({tuple(name for name in group if name not in moving) for group in expected}))
        self.assertEqual(asked(self, least_groups, given, sizes=sizes), returns(expected), (given, sizes))
        self.assertEqual(asked(self, least_helpers, given, sizes=sizes), returns(helpers), (given, sizes))
        return expected

    def test_examples(self):
        self.assertEqual([least_groups(MORE, FIRST, LAST), least_helpers(MORE, FIRST, LAST)],
                         [(("ann", "bob", "cy"),), ((),)])

    def test_equal_holdings(self):
        for accepts, begin, goal in cases():
            self.assertEqual(asked(self, least_groups, {"accepts": accepts, "begin": goal, "goal": goal}, sizes=(2,)),
                             returns(((),)))
            self.assertEqual(asked(self, least_helpers, {"accepts": accepts, "begin": goal, "goal": goal}, sizes=()),
                             returns(((),)))

    def test_a_goal_that_cannot_be_reached(self):
        for given in ((THREE, FIRST, LAST), (circle(6), plain(6), turned(6))):
            self.assertEqual(least_groups(*given), ())
            self.assertEqual(least_helpers(*given), ())

    def test_helpers(self):
        self.assertEqual(asked(self, least_groups, PICK, sizes=(2,)), returns((("ann", "bob", "cy", "dan"),)))
        self.assertEqual(asked(self, least_helpers, PICK, sizes=(2,)), returns((("dan",),)))
        self.assertEqual(asked(self, least_groups, PICK, sizes=(2, 3)), returns((("ann", "bob", "cy"),)))
        self.assertEqual(asked(self, least_helpers, PICK, sizes=(2, 3)), returns(((),)))

    def test_one_of_several_helpers(self):
        # Trades of four need somebody else for a ring of three, whoever that is.
        goal = after_rings(5, ("ann", "cy", "dan"))
        self.assertEqual(self.check(full(5), plain(5), goal, (4,)),
                         (("ann", "bob", "cy", "dan"), ("ann", "cy", "dan", "eve")))
        self.assertEqual(least_helpers(full(5), plain(5), goal, sizes=(4,)), (("bob",), ("eve",)))
        helped = tuple(sorted(HELPED + tuple(("eve", item) for item in ("bed", "cot", "den", "fan")) + (("ann", "fan"),)))
        begin, goal = FIRST_HELPED + (("eve", "fan"),), LAST_HELPED + (("eve", "fan"),)
        self.assertEqual(self.check(helped, begin, goal, (2,)),
                         (("ann", "bob", "cy", "dan"), ("ann", "bob", "cy", "eve")))
        self.assertEqual(least_helpers(helped, begin, goal), (("dan",), ("eve",)))

    def test_one_helper_or_two_others(self):
        # cy, eve and fay need bob, or ann, with whom only dan trades to get started.
        accepts = (
            ("ann", "bed"), ("ann", "cot"), ("ann", "den"), ("ann", "ink"), ("bob", "bed"), ("bob", "cot"), ("bob", "den"),
            ("bob", "elm"), ("cy", "bed"), ("cy", "cot"), ("cy", "elm"), ("cy", "fan"), ("dan", "bed"), ("dan", "cot"),
            ("dan", "fan"), ("dan", "ink"), ("eve", "cot"), ("eve", "den"), ("fay", "bed"), ("fay", "den"),
        )
        begin = (("ann", "ink"), ("bob", "elm"), ("cy", "bed"), ("dan", "fan"), ("eve", "cot"), ("fay", "den"))
        goal = (("ann", "ink"), ("bob", "elm"), ("cy", "cot"), ("dan", "fan"), ("eve", "den"), ("fay", "bed"))
        self.assertEqual(self.check(accepts, begin, goal, (2,)),
                         (("ann", "cy", "dan", "eve", "fay"), ("bob", "cy", "eve", "fay")))
        self.assertEqual(least_helpers(accepts, begin, goal), (("ann", "dan"), ("bob",)))

    def test_against_all_groups(self):
        for accepts, begin, goal in cases():
            for sizes in ALL_SIZES:
                self.check(accepts, begin, goal, sizes)

    def test_five_and_six_people(self):
        chance = random.Random(4)
        for seed in range(10):
            accepts = some_accepts(seed, 5 + seed % 2, 12 if seed % 2 else 20)
            holdings = all_holdings(accepts)
            for sizes in ((2,), (3,)):
                begin = chance.choice(holdings)
                goals = [holding for holding in holdings if len(set(holding) - set(begin)) <= 3]
                self.check(accepts, begin, chance.choice(goals), sizes)

    def test_no_sizes_and_sizes_above_the_number_of_people(self):
        for sizes in ((), (4,), (5, 8), (HUGE,)):
            self.assertEqual(self.check(full(3), FIRST, LAST, sizes), ())
        self.assertEqual(self.check(full(3), FIRST, LAST, (3, HUGE)), (("ann", "bob", "cy"),))

    def test_same_names(self):
        begin, goal = all_holdings(SAME)
        self.assertEqual(self.check(SAME, begin, goal, (2,)), (("a", "abcdefgh"),))

    def test_consequences(self):
        for seed in range(8):
            accepts = some_accepts(seed, 4, 7)
            more = tuple(sorted(set(accepts) | set(some_accepts(seed, 4, 20))))
            holdings = all_holdings(accepts)
            for goal in holdings:
                moving = {name for ring in rings_between(holdings[0], goal) for name in ring}
                for group in least_groups(accepts, holdings[0], goal):
                    self.assertLessEqual(moving, set(group))
                    for wider in (least_groups(accepts, holdings[0], goal, sizes=(2, 3)),
                                  least_groups(more, holdings[0], goal)):
                        self.assertTrue(any(set(other) <= set(group) for other in wider))


class GroupsForTests(unittest.TestCase):
    def check(self, accepts, begin, pair, sizes):
        given = {"accepts": accepts, "begin": begin, "person": pair[0], "item": pair[1]}
        expected = minimal([group for group in parts(people(accepts))
                            if any(pair in holding for holding in reached_by(accepts, begin, group, sizes))])
        self.assertEqual(asked(self, groups_for, given, sizes=sizes), returns(expected), (given, sizes))
        return expected

    def test_by_hand(self):
        self.assertEqual(self.check(MORE, FIRST, ("cy", "cot"), (2,)), (("bob", "cy"),))
        self.assertEqual(self.check(MORE, FIRST, ("ann", "cot"), (2,)), (("ann", "bob", "cy"),))
        self.assertEqual(self.check(THREE, FIRST, ("ann", "cot"), (2,)), ())
        self.assertEqual(self.check(THREE, FIRST, ("ann", "cot"), (3,)), (("ann", "bob", "cy"),))

    def test_a_pair_that_begin_has(self):
        for accepts, begin, goal in cases():
            for pair in begin:
                self.assertEqual(self.check(accepts, begin, pair, (2,)), ((),))
                self.assertEqual(self.check(accepts, begin, pair, ()), ((),))

    def test_against_all_groups(self):
        for accepts, begin, goal in cases():
            for pair in accepts:
                for sizes in ALL_SIZES[:6]:
                    self.check(accepts, begin, pair, sizes)

    def test_over_one_other_or_over_two(self):
        # The item goes from cy to bob to eve, or from cy to dan to ann to eve.
        accepts = (
            ("ann", "bed"), ("ann", "den"), ("ann", "fan"), ("bob", "cot"), ("bob", "den"), ("bob", "fan"),
            ("cy", "cot"), ("cy", "den"), ("cy", "elm"), ("dan", "bed"), ("dan", "den"), ("dan", "elm"),
            ("eve", "den"), ("eve", "fan"),
        )
        begin = (("ann", "bed"), ("bob", "cot"), ("cy", "den"), ("dan", "elm"), ("eve", "fan"))
        self.assertEqual(self.check(accepts, begin, ("eve", "den"), (2,)),
                         (("ann", "cy", "dan", "eve"), ("bob", "cy", "eve")))

    def test_several_minimal_groups(self):
        pair = ("ann", "cot")
        accepts = (("ann", "bed"), ("ann", "cot"), ("bob", "bed"), ("bob", "cot"), ("bob", "den"), ("cy", "bed"),
                   ("cy", "cot"), ("cy", "den"), ("dan", "bed"), ("dan", "den"), ("dan", "elm"))
        begin = (("ann", "bed"), ("bob", "cot"), ("cy", "den"), ("dan", "elm"))
        self.assertEqual(self.check(accepts, begin, pair, (2,)), (("ann", "bob"),))
        self.assertEqual(self.check(accepts, begin, pair, (3,)), (("ann", "bob", "cy"),))
        chance = random.Random(6)
        several = 0
        for seed in range(8):
            accepts = some_accepts(seed, 5, 14)
            begin = chance.choice(all_holdings(accepts))
            for pair in accepts[::3]:
                several += len(self.check(accepts, begin, pair, (3,))) > 1
                self.check(accepts, begin, pair, (2,))
        self.assertGreater(several, 0)

    def test_holdings_that_no_goal_names(self):
        # Any holding with the pair will do, whatever the others hold then.
        for accepts in all_accepts():
            begin = all_holdings(accepts)[0]
            for pair in accepts:
                for group in groups_for(accepts, begin, *pair):
                    self.assertTrue(any(with_group(accepts, begin, goal, group)
                                        for goal in all_holdings(accepts) if pair in goal))

    def test_unknown_pair(self):
        for pair in (("ann", "den"), ("ann", "zip"), ("zoe", "bed"), ("zoe", "zip"), ("bed", "ann")):
            given = {"accepts": MORE, "begin": FIRST, "person": pair[0], "item": pair[1]}
            self.assertEqual(asked(self, groups_for, given, sizes=(2,)), raises(UnknownPair, pair))
            self.assertEqual(asked(self, groups_for, given, sizes=()), raises(UnknownPair, pair))

    def test_equal_names_of_people_and_items(self):
        begin = (("a", "a"), ("abcdefgh", "abcdefgh"))
        self.assertEqual(self.check(SAME, begin, ("a", "abcdefgh"), (2,)), (("a", "abcdefgh"),))
        self.assertEqual(self.check(BOTH, BOTH[::3], ("ann", "cot"), (2,)), (("ann", "bob"),))

    def test_no_sizes_and_sizes_above_the_number_of_people(self):
        for sizes in ((), (4,), (HUGE,)):
            self.assertEqual(self.check(full(3), FIRST, ("ann", "den"), sizes), ())
