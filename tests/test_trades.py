"""[2], [4], [9], [21], [22]: ring trades."""

import unittest

from handround.errors import InvalidTrade
from handround.trades import after_ring, after_row, bar_of, trades_in
from tests.samples import (
    BOTH, FIRST, HUGE, LAST, MORE, PEOPLE, SAME, THREE, all_accepts, all_holdings, all_rings, all_steps,
    circle, full, handed, plain, turned,
)


class RingTests(unittest.TestCase):
    def refused(self, function, *given):
        with self.assertRaises(InvalidTrade) as caught:
            function(*given)
        return (caught.exception.ring, caught.exception.reason)

    def test_examples(self):
        self.assertEqual(bar_of(THREE, FIRST, ("ann", "bob")), "accept")
        self.assertEqual(bar_of(THREE, FIRST, ("ann", "zoe")), "person")
        self.assertEqual(after_row(MORE, FIRST, ("bob", "cy"), ("ann", "cy")), LAST)

    def test_the_way_of_the_items(self):
        self.assertIsNone(bar_of(THREE, FIRST, ("ann", "cy", "bob")))
        self.assertEqual(bar_of(THREE, FIRST, ("ann", "bob", "cy")), "accept")
        self.assertEqual(after_ring(THREE, FIRST, ("ann", "cy", "bob")), LAST)
        self.assertEqual(after_ring(THREE, LAST, ("ann", "bob", "cy")), FIRST)

    def test_person_comes_before_accept(self):
        for ring in (("ann", "bob", "zoe"), ("a", "bob", "cy"), ("ann", "bed"), ("x", "y"), ("ann", "bob", "m")):
            self.assertEqual(bar_of(THREE, FIRST, ring), "person")

    def test_bar_against_the_words(self):
        for accepts in all_accepts():
            people = sorted({person for person, item in accepts})
            for holding in all_holdings(accepts):
                possible = [ring for ring, after in all_steps(accepts, holding, (2, 3, 4))]
                for ring in all_rings(people, (2, 3, 4)):
                    expected = None if ring in possible else "accept"
                    self.assertEqual(bar_of(accepts, holding, ring), expected)
                    self.assertEqual(bar_of(accepts=accepts, holding=holding, ring=ring), expected)
                for ring in all_rings(people + ["zoe"], (2, 3)):
                    self.assertEqual(bar_of(accepts, holding, ring) == "person", "zoe" in ring)

    def test_after_ring_against_the_words(self):
        for accepts in all_accepts():
            for holding in all_holdings(accepts):
                for ring, after in all_steps(accepts, holding, (2, 3, 4)):
                    self.assertEqual(after_ring(accepts, holding, ring), after)
                    self.assertEqual(after_ring(accepts=accepts, holding=holding, ring=ring), after)

    def test_every_trade_can_be_taken_back(self):
        for accepts in all_accepts():
            for holding in all_holdings(accepts):
                for ring, after in all_steps(accepts, holding, (2, 3, 4)):
                    self.assertEqual(after_ring(accepts, after, ring[:1] + ring[:0:-1]), holding)

    def test_after_ring_refuses(self):
        ring = ("ann", "bob")
        found = self.refused(after_ring, THREE, FIRST, ring)
        self.assertIs(found[0], ring)
        self.assertEqual(found[1], "accept")
        self.assertEqual(self.refused(after_ring, THREE, FIRST, ("ann", "zoe")), (("ann", "zoe"), "person"))

    def test_rows(self):
        self.assertEqual(after_row(THREE, FIRST), FIRST)
        self.assertEqual(after_row(THREE, FIRST, ("ann", "cy", "bob"), ("ann", "bob", "cy")), FIRST)
        self.assertEqual(after_row(BOTH, (("ann", "bed"), ("bob", "cot")), *[("ann", "bob")] * 40),
                         (("ann", "bed"), ("bob", "cot")))
        self.assertEqual(after_row(full(8), plain(8), PEOPLE), tuple(sorted(handed(plain(8), PEOPLE).items())))

    def test_rows_refuse_the_first_ring_that_is_not_possible_then(self):
        turn = ("ann", "cy", "bob")
        again = ("ann", "cy", "bob")
        found = self.refused(after_row, THREE, FIRST, turn, again, ("ann", "zoe"))
        self.assertIs(found[0], again)
        self.assertEqual(found[1], "accept")
        self.assertEqual(self.refused(after_row, THREE, FIRST, turn, ("ann", "zoe"), again),
                         (("ann", "zoe"), "person"))
        self.assertEqual(self.refused(after_row, THREE, FIRST, ("bob", "cy")), (("bob", "cy"), "accept"))

    def test_rows_against_single_rings(self):
        for accepts in all_accepts():
            for holding in all_holdings(accepts)[:2]:
                for ring, after in all_steps(accepts, holding, (2, 3)):
                    for other, last in all_steps(accepts, after, (2, 3)):
                        self.assertEqual(after_row(accepts, holding, ring, other), last)

    def test_kinds(self):
        for after in (after_ring(BOTH, BOTH[::3], ("ann", "bob")), after_row(BOTH, BOTH[::3])):
            self.assertIs(type(after), tuple)
            self.assertTrue(all(type(pair) is tuple for pair in after))

    def test_same_names(self):
        holding = (("a", "a"), ("abcdefgh", "abcdefgh"))
        self.assertEqual(after_ring(SAME, holding, ("a", "abcdefgh")), (("a", "abcdefgh"), ("abcdefgh", "a")))


class TradesTests(unittest.TestCase):
    def test_examples(self):
        self.assertEqual(list(trades_in(MORE, FIRST, sizes=(2, 3))), [("ann", "cy", "bob"), ("bob", "cy")])
        self.assertEqual(list(trades_in(MORE, FIRST)), [("bob", "cy")])
        self.assertEqual(list(trades_in(THREE, FIRST)), [])

    def test_against_all_candidates(self):
        for accepts in all_accepts() + [circle(6)]:
            for holding in all_holdings(accepts):
                for sizes in ((), (2,), (3,), (2, 3), (2, 4), (3, 4), (2, 3, 4, 5, 6)):
                    expected = [ring for ring, after in all_steps(accepts, holding, sizes)]
                    self.assertEqual(list(trades_in(accepts, holding, sizes=sizes)), expected)

    def test_the_sizes_left_out(self):
        for accepts in all_accepts():
            for holding in all_holdings(accepts):
                self.assertEqual(list(trades_in(accepts, holding)), list(trades_in(accepts, holding, sizes=(2,))))

    def test_six_and_eight_people(self):
        expected = [ring for ring, after in all_steps(full(6), plain(6), (2, 3, 4, 5, 6))]
        self.assertEqual(list(trades_in(full(6), plain(6), sizes=(2, 3, 4, 5, 6))), expected)
        self.assertEqual(len(expected), 409)
        self.assertEqual(list(trades_in(circle(8), plain(8), sizes=(2, 3, 4, 5, 6, 7, 8))),
                         [PEOPLE[:1] + PEOPLE[:0:-1]])
        self.assertEqual(list(trades_in(circle(8), turned(8), sizes=(8,))), [PEOPLE])
        self.assertEqual(list(trades_in(circle(8), plain(8), sizes=(2, 3, 4, 5, 6, 7))), [])

    def test_sizes_above_the_number_of_people(self):
        self.assertEqual(list(trades_in(MORE, FIRST, sizes=(4, 5))), [])
        self.assertEqual(list(trades_in(MORE, FIRST, sizes=(HUGE,))), [])
        self.assertEqual(list(trades_in(MORE, FIRST, sizes=(2, HUGE))), [("bob", "cy")])

    def test_sizes_by_name_only(self):
        with self.assertRaises(TypeError):
            list(trades_in(MORE, FIRST, (2,)))
        self.assertEqual(list(trades_in(accepts=MORE, holding=FIRST, sizes=(2,))), [("bob", "cy")])

    def test_generators_side_by_side(self):
        one = trades_in(full(4), plain(4), sizes=(2, 3))
        other = trades_in(full(4), plain(4), sizes=(2, 3))
        self.assertIs(iter(one), one)
        pairs = list(zip(one, other))
        self.assertEqual(len(pairs), 14)
        self.assertTrue(all(this == that for this, that in pairs))

