"""[8], [23], [24], [29]: what can be reached, and how fast."""

import unittest

from handround.barerings import widest_bare
from handround.reaching import distance, least_row, reachable, rows_within
from handround.trades import after_row
from tests.samples import (
    BOTH, FIRST, HUGE, LAST, MORE, SAME, THREE, all_accepts, all_holdings, all_rows, circle, distances, full,
    needed_between, plain, rings_between, some_accepts, turned,
)

SIZES = ((), (2,), (3,), (2, 3), (2, 4), (3, 4), (2, 3, 4))


class ReachTests(unittest.TestCase):
    def test_examples(self):
        self.assertEqual(reachable(THREE, FIRST), (FIRST,))
        self.assertEqual(reachable(THREE, FIRST, sizes=(3,)), (FIRST, LAST))
        self.assertEqual([distance(MORE, FIRST, LAST), distance(THREE, FIRST, LAST)], [2, None])
        self.assertEqual(least_row(MORE, FIRST, LAST), (("bob", "cy"), ("ann", "cy")))
        self.assertIsNone(least_row(THREE, FIRST, LAST))

    def test_against_a_direct_search(self):
        for accepts in all_accepts():
            for begin in all_holdings(accepts)[:4]:
                for sizes in SIZES:
                    known = distances(accepts, begin, sizes)
                    self.assertEqual(reachable(accepts, begin, sizes=sizes), tuple(sorted(known)))
                    for goal in all_holdings(accepts):
                        self.assertEqual(distance(accepts, begin, goal, sizes=sizes), known.get(goal))
                        self.check_row(accepts, begin, goal, sizes, known.get(goal))

    def check_row(self, accepts, begin, goal, sizes, many):
        row = least_row(accepts, begin, goal, sizes=sizes)
        if many is None:
            self.assertIsNone(row)
            return
        self.assertIs(type(row), tuple)
        self.assertEqual(len(row), many)
        self.assertTrue(all(len(ring) in sizes and ring[0] == min(ring) for ring in row))
        self.assertEqual(after_row(accepts, begin, *row), goal)

    def test_five_and_six_people(self):
        for accepts, begin in ((some_accepts(3, 5, 12), None), (circle(6), plain(6)), (full(5), plain(5))):
            begin = begin or all_holdings(accepts)[0]
            for sizes in ((2,), (3,), (2, 3, 4, 5, 6)):
                known = distances(accepts, begin, sizes)
                self.assertEqual(reachable(accepts, begin, sizes=sizes), tuple(sorted(known)))
                for goal in all_holdings(accepts)[::7]:
                    self.assertEqual(distance(accepts, begin, goal, sizes=sizes), known.get(goal))
                    self.check_row(accepts, begin, goal, sizes, known.get(goal))

    def test_the_full_market_of_six(self):
        self.assertEqual(len(reachable(full(6), plain(6))), 720)
        self.assertEqual(len(reachable(full(6), plain(6), sizes=(3,))), 360)
        self.assertEqual(distance(full(6), plain(6), turned(6)), 5)

    def test_equal_holdings(self):
        for sizes in SIZES:
            self.assertEqual(reachable(circle(4), plain(4), sizes=sizes)[0], plain(4))
            self.assertEqual(distance(THREE, FIRST, FIRST, sizes=sizes), 0)
            self.assertEqual(least_row(THREE, FIRST, FIRST, sizes=sizes), ())

    def test_no_sizes_and_sizes_above_the_number_of_people(self):
        for sizes in ((), (4,), (5, 6), (HUGE,)):
            self.assertEqual(reachable(full(3), FIRST, sizes=sizes), (FIRST,))
            self.assertIsNone(distance(full(3), FIRST, LAST, sizes=sizes))
            self.assertIsNone(least_row(full(3), FIRST, LAST, sizes=sizes))
        self.assertEqual(distance(THREE, FIRST, LAST, sizes=(3, HUGE)), 1)

    def test_the_sizes_left_out(self):
        for accepts in all_accepts():
            begin, *others = all_holdings(accepts)
            self.assertEqual(reachable(accepts, begin), reachable(accepts, begin, sizes=(2,)))
            for goal in others[:3]:
                self.assertEqual(distance(accepts, begin, goal), distance(accepts, begin, goal, sizes=(2,)))
                self.assertEqual(list(rows_within(accepts, begin, goal, 3)),
                                 list(rows_within(accepts, begin, goal, 3, sizes=(2,))))

    def test_calls_by_name(self):
        self.assertEqual(reachable(accepts=THREE, holding=FIRST, sizes=(3,)), (FIRST, LAST))
        self.assertEqual(distance(accepts=MORE, begin=FIRST, goal=LAST, sizes=(2,)), 2)
        self.assertEqual(len(least_row(accepts=MORE, begin=FIRST, goal=LAST, sizes=(2,))), 2)
        self.assertEqual(list(rows_within(accepts=MORE, begin=FIRST, goal=LAST, most=2, sizes=(2,))),
                         [(("bob", "cy"), ("ann", "cy"))])
        for function in (reachable, distance, least_row):
            with self.assertRaises(TypeError):
                function(MORE, FIRST, LAST, (2,))
        with self.assertRaises(TypeError):
            list(rows_within(MORE, FIRST, LAST, 2, (2,)))

    def test_same_names(self):
        self.assertEqual(len(reachable(SAME, (("a", "a"), ("abcdefgh", "abcdefgh")))), 2)


class RowsTests(unittest.TestCase):
    def test_example(self):
        self.assertEqual(list(rows_within(MORE, FIRST, LAST, 2)), [(("bob", "cy"), ("ann", "cy"))])

    def test_against_all_rows(self):
        for accepts in all_accepts():
            holdings = all_holdings(accepts)
            for begin in holdings[:2]:
                for goal in holdings[:3]:
                    for sizes, most in (((2,), 4), ((3,), 3), ((2, 3), 2), ((2, 3, 4), 2), ((), 4)):
                        expected = all_rows(accepts, begin, goal, most, sizes)
                        self.assertEqual(list(rows_within(accepts, begin, goal, most, sizes=sizes)), expected)

    def test_four_rings_of_several_sizes(self):
        expected = all_rows(full(3), FIRST, LAST, 4, (2, 3))
        self.assertGreater(len(expected), 100)
        self.assertEqual(list(rows_within(full(3), FIRST, LAST, 4, sizes=(2, 3))), expected)

    def test_none_at_most(self):
        self.assertEqual(list(rows_within(MORE, FIRST, FIRST, 0)), [()])
        self.assertEqual(list(rows_within(MORE, FIRST, LAST, 0)), [])

    def test_holdings_may_be_passed_several_times(self):
        begin = (("ann", "bed"), ("bob", "cot"))
        swap = ("ann", "bob")
        self.assertEqual(list(rows_within(BOTH, begin, begin, 4)), [(), (swap,) * 2, (swap,) * 4])
        self.assertEqual(list(rows_within(BOTH, begin, BOTH[1:3], 4)), [(swap,), (swap,) * 3])

    def test_shorter_rows_come_first(self):
        rows = list(rows_within(MORE, FIRST, LAST, 4, sizes=(2, 3)))
        self.assertEqual([len(row) for row in rows], sorted(len(row) for row in rows))
        self.assertEqual(rows[0], (("ann", "cy", "bob"),))
        self.assertEqual(len(set(rows)), len(rows))

    def test_one_by_one_and_side_by_side(self):
        one = rows_within(full(6), plain(6), turned(6), 4, sizes=(2, 3, 4, 5, 6))
        self.assertEqual(next(one), ((plain(6)[0][0],) + tuple(name for name, item in plain(6)[:0:-1]),))
        other = rows_within(MORE, FIRST, LAST, 4)
        again = rows_within(MORE, FIRST, LAST, 4)
        self.assertTrue(all(this == that for this, that in zip(other, again)))
        self.assertIs(iter(one), one)

    def test_goal_that_cannot_be_reached(self):
        self.assertEqual(list(rows_within(THREE, FIRST, LAST, 4)), [])


class ConsequenceTests(unittest.TestCase):
    def test_distance_is_symmetric_and_keeps_to_the_triangle(self):
        for accepts in all_accepts():
            holdings = all_holdings(accepts)[:6]
            for sizes in ((2,), (2, 3)):
                far = {(one, other): distance(accepts, one, other, sizes=sizes)
                       for one in holdings for other in holdings}
                for (one, other), many in far.items():
                    self.assertEqual(many, far[other, one])
                    for third in holdings:
                        if None not in (far[one, third], far[third, other]):
                            self.assertLessEqual(many, far[one, third] + far[third, other])

    def test_the_rings_of_the_difference_lead_to_the_goal(self):
        for accepts in all_accepts():
            for begin in all_holdings(accepts)[:4]:
                for goal in all_holdings(accepts):
                    rings = rings_between(begin, goal)
                    self.assertEqual(after_row(accepts, begin, *rings), goal)
                    sizes = tuple(sorted({len(ring) for ring in rings}))
                    self.assertLessEqual(distance(accepts, begin, goal, sizes=sizes), len(rings))
                    back = {ring[:1] + ring[:0:-1] for ring in rings}
                    self.assertEqual(set(rings_between(goal, begin)), back)

    def test_more_acceptances_and_more_sizes(self):
        for seed in range(6):
            accepts = some_accepts(seed, 4, 6)
            more = tuple(sorted(set(accepts) | set(some_accepts(seed, 4, 20))))
            holdings = all_holdings(accepts)
            for begin in holdings[:3]:
                for goal in holdings:
                    least = distance(accepts, begin, goal)
                    if least is not None:
                        self.assertLessEqual(distance(more, begin, goal), least)
                        self.assertLessEqual(distance(accepts, begin, goal, sizes=(2, 3)), least)
                self.assertLessEqual(set(reachable(accepts, begin)), set(reachable(more, begin)))
                self.assertLessEqual(set(reachable(accepts, begin)), set(reachable(accepts, begin, sizes=(2, 4))))

    def test_efforts(self):
        for accepts in (MORE, full(3), some_accepts(5, 3, 4)):
            holdings = all_holdings(accepts)
            for begin in holdings:
                for goal in holdings:
                    needed = needed_between(begin, goal)
                    for row in rows_within(accepts, begin, goal, 3, sizes=(2, 3)):
                        detour = sum(len(ring) - 1 for ring in row) - needed
                        self.assertGreaterEqual(detour, 0)
                        self.assertEqual(detour % 2, 0)
                        moving = {name for ring in rings_between(begin, goal) for name in ring}
                        if detour == 0:
                            self.assertLessEqual({name for ring in row for name in ring}, moving)

    def test_odd_sizes_and_odd_needs(self):
        for begin in all_holdings(full(4))[:3]:
            for goal in all_holdings(full(4)):
                if needed_between(begin, goal) % 2 == 1:
                    self.assertIsNone(distance(full(4), begin, goal, sizes=(3,)))

    def test_bare_rings_bound_the_sizes_of_direct_rows(self):
        for accepts in all_accepts() + [some_accepts(seed, 4, 5) for seed in range(8)]:
            sizes = tuple(range(2, widest_bare(accepts) + 1))
            holdings = all_holdings(accepts)
            for begin in holdings[:3]:
                for goal in holdings:
                    needed = needed_between(begin, goal)
                    rows = [()] if begin == goal else rows_within(accepts, begin, goal, needed, sizes=sizes)
                    self.assertTrue(any(sum(len(ring) - 1 for ring in row) == needed for row in rows))
