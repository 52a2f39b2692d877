"""[4], [5], [8], [36], [37]: direct rows."""

import random
import unittest

from handround.barerings import bare_rings, widest_bare
from handround.directs import direct_row, direct_trades, is_direct
from handround.reaching import distance, rows_within
from handround.trades import after_row
from tests.calls import asked, returns, yields
from tests.papermodel import ALL_SIZES, cases, direct_steps, goes_round, reached
from tests.samples import (
    BOTH, FIRST, FIRST_HELPED, HELPED, HUGE, LAST, LAST_HELPED, MORE, PEOPLE, SAME, THREE, all_accepts,
    all_holdings, all_rings, all_rows, all_steps, circle, full, handed, needed_between, plain, rings_between,
    some_accepts, turned,
)

TURN = ("ann", "cy", "bob")


def effort(row):
    return sum(len(ring) - 1 for ring in row)


class IsDirectTests(unittest.TestCase):
    def check(self, accepts, begin, goal, row, expected):
        given = {"accepts": accepts, "begin": begin, "goal": goal, "row": row}
        self.assertEqual(asked(self, is_direct, given), returns(expected), row)

    def test_examples(self):
        self.check(MORE, FIRST, LAST, (("bob", "cy"), ("ann", "cy")), True)
        self.check(MORE, FIRST, LAST, (TURN,), True)
        self.check(THREE, FIRST, LAST, (TURN,), True)

    def test_equal_holdings(self):
        self.check(MORE, FIRST, FIRST, (), True)
        self.check(MORE, FIRST, FIRST, (("bob", "cy"), ("bob", "cy")), False)
        self.check(MORE, FIRST, LAST, (), False)

    def test_rows_that_are_not_possible(self):
        self.check(MORE, FIRST, LAST, (("ann", "cy"), ("bob", "cy")), False)
        self.check(THREE, FIRST, LAST, (("bob", "cy"), ("ann", "cy")), False)
        self.check(MORE, FIRST, LAST, (("bob", "zoe"),), False)
        self.check(MORE, FIRST, LAST, (TURN, ("ann", "zoe")), False)
        # It leads to LAST with the effort needed where bob accepts the bed.
        row = (("ann", "bob"), ("bob", "cy"))
        self.check(full(3), FIRST, LAST, row, True)
        self.check(MORE, FIRST, LAST, row, False)

    def test_rows_that_lead_elsewhere(self):
        self.check(MORE, FIRST, LAST, (("bob", "cy"),), False)
        self.check(full(3), FIRST, LAST, (("bob", "cy"), ("ann", "bob")), False)
        self.check(full(3), FIRST, LAST, (("ann", "bob", "cy"),), False)

    def test_detours(self):
        self.check(MORE, FIRST, LAST, (("bob", "cy"), ("bob", "cy"), TURN), False)
        self.check(full(3), FIRST, LAST, (("ann", "bob", "cy"), ("ann", "bob", "cy")), False)
        # Somebody outside of the difference helps.
        swap = after_row(full(3), FIRST, ("ann", "bob"))
        self.check(full(3), FIRST, swap, (("ann", "cy"), ("bob", "cy"), ("ann", "cy")), False)
        self.check(full(3), FIRST, swap, (("ann", "bob"),), True)

    def test_against_all_rows(self):
        for accepts in (MORE, BOTH, full(3), circle(3), some_accepts(3, 4, 5)):
            holdings = all_holdings(accepts)
            for begin in holdings[:2]:
                for goal in holdings[:4]:
                    for row in all_rows(accepts, begin, goal, 3, (2, 3, 4)):
                        expected = effort(row) == needed_between(begin, goal)
                        self.assertIs(is_direct(accepts, begin, goal, row), expected)
                        self.assertFalse(any(is_direct(accepts, begin, other, row)
                                             for other in holdings if other != goal))

    def test_against_the_trades(self):
        # [36]: direct if and only if each ring is a direct trade for the holding then.
        for accepts in all_accepts():
            holdings = all_holdings(accepts)
            sizes = (2, 3, 4)
            for goal in holdings[:4]:
                for row in rows_within(accepts, holdings[0], goal, 2, sizes=sizes):
                    at = holdings[0]
                    each = True
                    for ring in row:
                        each = each and ring in dict(direct_steps(accepts, at, goal, sizes))
                        at = tuple(sorted(handed(at, ring).items()))
                    self.assertIs(is_direct(accepts, holdings[0], goal, row), each)

    def test_forty_rings(self):
        self.check(BOTH, BOTH[::3], BOTH[::3], (("ann", "bob"),) * 40, False)
        self.check(full(6), plain(6), turned(6), (("ann", "bob"),) * 40, False)


class TradesTests(unittest.TestCase):
    def check(self, accepts, begin, goal, sizes, expected):
        given = {"accepts": accepts, "begin": begin, "goal": goal}
        self.assertEqual(asked(self, direct_trades, given, sizes=sizes), yields(*expected))

    def test_examples(self):
        self.check(MORE, FIRST, LAST, (2,), [("bob", "cy")])
        self.check(MORE, FIRST, LAST, (2, 3), [TURN, ("bob", "cy")])
        self.check(THREE, FIRST, LAST, (2,), [])

    def test_equal_holdings(self):
        self.check(full(4), plain(4), plain(4), (2, 3, 4), [])

    def test_against_all_rings_by_the_cyclic_order(self):
        for accepts, begin, goal in cases():
            for sizes in ALL_SIZES:
                wholes = rings_between(begin, goal)
                possible = dict(all_steps(accepts, begin, sizes))
                rings = all_rings(sorted(dict(begin)), [size for size in sizes if size < 9])
                expected = [ring for ring in rings
                            if ring in possible and any(goes_round(whole, ring) for whole in wholes)]
                self.check(accepts, begin, goal, sizes, expected)

    def test_against_all_rings_by_what_they_lower(self):
        for accepts, begin, goal in cases():
            needed = needed_between(begin, goal)
            lower = []
            for ring, after in all_steps(accepts, begin, (2, 3, 4)):
                self.assertLessEqual(needed - needed_between(after, goal), len(ring) - 1)
                if needed - needed_between(after, goal) == len(ring) - 1:
                    lower.append(ring)
            self.check(accepts, begin, goal, (2, 3, 4), lower)

    def test_six_people(self):
        rings = {
            1: [PEOPLE[:6]], 2: [("ann", "cy", "eve"), ("bob", "fay", "dan")],
            3: [("ann", "fay"), ("bob", "eve"), ("cy", "dan")],
        }
        for many in rings:
            goal = after_row(full(6), plain(6), *rings[many])
            for accepts in (full(6), tuple(sorted(set(plain(6) + goal + some_accepts(many, 6, 9))))):
                for sizes in ((2,), (2, 3), (3, 5), (2, 3, 4, 5, 6)):
                    expected = [ring for ring, after in direct_steps(accepts, plain(6), goal, sizes)]
                    self.check(accepts, plain(6), goal, sizes, expected)
        self.assertEqual(len(list(direct_trades(full(6), plain(6), turned(6), sizes=(2, 3, 4, 5, 6)))), 57)

    def test_rings_that_begin_in_the_middle_of_the_difference(self):
        goal = after_row(full(4), plain(4), ("ann", "dan", "bob", "cy"))
        self.assertEqual(list(direct_trades(full(4), plain(4), goal, sizes=(3,))), [
            ("ann", "bob", "cy"), ("ann", "dan", "bob"), ("ann", "dan", "cy"), ("bob", "cy", "dan"),
        ])

    def test_no_trade_across_two_rings_of_the_difference(self):
        goal = after_row(full(4), plain(4), ("ann", "bob"), ("cy", "dan"))
        self.check(full(4), plain(4), goal, (2, 3, 4), [("ann", "bob"), ("cy", "dan")])

    def test_one_by_one_and_side_by_side(self):
        given = (full(5), plain(5), turned(5))
        one = direct_trades(*given, sizes=(2, 3))
        other = direct_trades(*given, sizes=(2, 3))
        self.assertIs(iter(one), one)
        self.assertEqual(next(one), next(other))
        self.assertTrue(all(this == that for this, that in zip(one, other, strict=True)))

    def test_sizes_by_name_only(self):
        for function in (direct_trades, direct_row):
            with self.assertRaises(TypeError):
                function(MORE, FIRST, LAST, (2,))


class RowTests(unittest.TestCase):
    def check(self, accepts, begin, goal, sizes, is_there):
        given = {"accepts": accepts, "begin": begin, "goal": goal}
        found = asked(self, direct_row, given, sizes=sizes)
        row = direct_row(accepts, begin, goal, sizes=sizes)
        self.assertEqual(found, returns(row))
        if not is_there:
            self.assertIsNone(row)
            return
        self.assertIs(type(row), tuple)
        self.assertTrue(all(type(ring) is tuple and ring[0] == min(ring) and len(ring) in sizes for ring in row))
        self.assertEqual(after_row(accepts, begin, *row), goal)
        self.assertEqual(effort(row), needed_between(begin, goal))

    def test_examples(self):
        self.assertEqual(direct_row(MORE, FIRST, LAST), (("bob", "cy"), ("ann", "cy")))
        self.assertEqual(direct_row(THREE, FIRST, LAST, sizes=(3,)), (TURN,))
        self.assertIsNone(direct_row(THREE, FIRST, LAST))

    def test_equal_holdings(self):
        for sizes in ALL_SIZES:
            self.assertEqual(asked(self, direct_row, {"accepts": MORE, "begin": LAST, "goal": LAST}, sizes=sizes),
                             returns(()))

    def test_against_a_search_over_all_direct_rows(self):
        for accepts, begin, goal in cases():
            for sizes in ALL_SIZES:
                known = reached(begin, lambda holding: direct_steps(accepts, holding, goal, sizes))
                self.check(accepts, begin, goal, sizes, goal in known)

    def test_against_all_rows_with_the_effort_needed(self):
        for accepts in (MORE, THREE, full(3), circle(4), some_accepts(2, 4, 5)):
            holdings = all_holdings(accepts)
            for begin in holdings[:3]:
                for goal in holdings[:5]:
                    for sizes in ((2,), (3,), (2, 3)):
                        needed = needed_between(begin, goal)
                        rows = all_rows(accepts, begin, goal, needed, sizes)
                        self.check(accepts, begin, goal, sizes, any(effort(row) == needed for row in rows))

    def test_a_goal_that_can_be_reached_but_not_directly(self):
        self.assertEqual(distance(HELPED, FIRST_HELPED, LAST_HELPED), 4)
        self.check(HELPED, FIRST_HELPED, LAST_HELPED, (2,), False)
        self.check(HELPED, FIRST_HELPED, LAST_HELPED, (2, 3), True)
        # Two rings of two, of which trades of three make one ring of four on the way.
        goal = after_row(full(4), plain(4), ("ann", "bob"), ("cy", "dan"))
        self.assertEqual(distance(full(4), plain(4), goal, sizes=(3,)), 2)
        self.check(full(4), plain(4), goal, (3,), False)

    def test_six_people(self):
        chance = random.Random(5)
        for seed in range(8):
            accepts = some_accepts(seed, 6, 8)
            holdings = all_holdings(accepts)
            for sizes in ((2,), (2, 3), (3,), (2, 3, 4, 5, 6)):
                begin, goal = chance.choice(holdings), chance.choice(holdings)
                known = reached(begin, lambda holding: direct_steps(accepts, holding, goal, sizes))
                self.check(accepts, begin, goal, sizes, goal in known)
        self.check(full(6), plain(6), turned(6), (2,), True)
        self.check(full(6), plain(6), turned(6), (3,), False)
        self.check(circle(6), plain(6), turned(6), (2, 3, 4, 5), False)
        self.check(circle(6), plain(6), turned(6), (6,), True)

    def test_no_sizes_and_sizes_above_the_number_of_people(self):
        for sizes in ((), (4,), (5, 8), (HUGE,)):
            self.check(full(3), FIRST, LAST, sizes, False)
        self.check(THREE, FIRST, LAST, (3, 4, HUGE), True)

    def test_same_names(self):
        begin, goal = all_holdings(SAME)
        self.assertEqual(direct_row(SAME, begin, goal), (("a", "abcdefgh"),))


class GuaranteeTests(unittest.TestCase):
    def test_direct_rows_move_only_people_of_the_difference(self):
        for accepts in all_accepts():
            holdings = all_holdings(accepts)
            for goal in holdings[:6]:
                row = direct_row(accepts, holdings[-1], goal, sizes=(2, 3, 4))
                moving = {name for ring in rings_between(holdings[-1], goal) for name in ring}
                self.assertLessEqual({name for ring in row for name in ring}, moving)

    def test_sizes_up_to_the_widest_bare_ring_suffice(self):
        for accepts in all_accepts() + [some_accepts(seed, 5, 6) for seed in range(6)]:
            holdings = all_holdings(accepts)
            for most in range(widest_bare(accepts), 6):
                for begin in holdings[:3]:
                    for goal in holdings:
                        self.assertIsNotNone(direct_row(accepts, begin, goal, sizes=tuple(range(2, most + 1))))

    def test_fewer_do_not_suffice_for_some_people(self):
        # [8] (H3): the people and the items of a bare ring of more than most people.
        for accepts in all_accepts() + [circle(5), circle(6)]:
            for ring in bare_rings(accepts):
                people, items = dict(ring), dict(ring).values()
                some = tuple(pair for pair in accepts if pair[0] in people and pair[1] in items)
                one, other = all_holdings(some)
                self.assertIsNone(direct_row(some, one, other, sizes=tuple(range(2, len(ring)))))
                self.assertIsNotNone(direct_row(some, one, other, sizes=(len(ring),)))
