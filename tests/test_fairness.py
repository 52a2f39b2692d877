"""[4], [7], [8], [47], [52]: fair trades."""

import random
import unittest

from handround.fairness import fair_trades, is_fair, is_settled
from handround.likes import rank_of
from tests.calls import asked, returns, yields
from tests.papermodel import ALL_SIZES, fair_steps, likes_of
from tests.samples import (
    FIRST, HUGE, LAST, MORE, PEOPLE, SAME, THREE, all_accepts, all_holdings, all_rings, all_steps, circle, full, handed,
    plain, some_accepts, turned,
)

LIKES = (("ann", ("cot", "bed")), ("bob", ("den", "cot")), ("cy", ("bed", "den")))
LIKES_MORE = (("ann", ("cot", "bed")), ("bob", ("den", "cot")), ("cy", ("bed", "cot", "den")))
TURN = ("ann", "cy", "bob")


class FairTests(unittest.TestCase):
    def check(self, accepts, likes, holding, ring, expected):
        given = {"accepts": accepts, "likes": likes, "holding": holding, "ring": ring}
        self.assertEqual(asked(self, is_fair, given), returns(expected), given)

    def test_by_hand(self):
        self.check(THREE, LIKES, FIRST, TURN, True)
        self.check(THREE, LIKES, LAST, ("ann", "bob", "cy"), False)
        self.check(MORE, LIKES_MORE, FIRST, ("bob", "cy"), True)
        likes = LIKES_MORE[:2] + (("cy", ("bed", "den", "cot")),)
        # cy would rather keep the den.
        self.check(MORE, likes, FIRST, ("bob", "cy"), False)

    def test_rings_that_are_not_possible(self):
        self.check(THREE, LIKES, FIRST, ("ann", "bob"), False)
        self.check(THREE, LIKES, FIRST, ("ann", "bob", "cy"), False)

    def test_names_that_are_none_of_the_people(self):
        for ring in (("ann", "zoe"), ("aa", "ann"), ("ann", "cy", "zoe"), ("x", "y"), ("bed", "cot"), ("a", "ann", "cy")):
            self.check(THREE, LIKES, FIRST, ring, False)

    def test_against_a_look_at_each_ring(self):
        for seed, accepts in enumerate(all_accepts()):
            likes = likes_of(accepts, seed)
            people = sorted(dict(accepts))
            for holding in all_holdings(accepts)[:8]:
                fair = dict(fair_steps(accepts, likes, holding, (2, 3, 4)))
                for ring in all_rings(people + ["zoe"], (2, 3, 4)):
                    self.check(accepts, likes, holding, ring, ring in fair)

    def test_six_people(self):
        for seed in range(4):
            accepts = some_accepts(seed, 6, 20)
            likes = likes_of(accepts, seed)
            holding = random.Random(seed).choice(all_holdings(accepts))
            fair = dict(fair_steps(accepts, likes, holding, (2, 3, 4, 5, 6)))
            for ring in all_rings(PEOPLE[:6], (2, 3, 6)):
                self.assertIs(is_fair(accepts, likes, holding, ring), ring in fair)


class TradesTests(unittest.TestCase):
    def check(self, accepts, likes, holding, sizes):
        given = {"accepts": accepts, "likes": likes, "holding": holding}
        expected = [ring for ring, after in fair_steps(accepts, likes, holding, sizes)]
        self.assertEqual(asked(self, fair_trades, given, sizes=sizes), yields(*expected), (given, sizes))
        self.assertEqual(asked(self, is_settled, given, sizes=sizes), returns(not expected), (given, sizes))
        return expected

    def test_examples(self):
        self.assertEqual([is_settled(THREE, LIKES, FIRST), list(fair_trades(THREE, LIKES, FIRST, sizes=(2, 3)))],
                         [True, [TURN]])
        self.assertEqual(self.check(MORE, LIKES_MORE, FIRST, (2, 3)), [TURN, ("bob", "cy")])
        self.assertEqual(self.check(THREE, LIKES, LAST, (2, 3)), [])

    def test_against_a_look_at_each_ring(self):
        for seed, accepts in enumerate(all_accepts()):
            for likes in (likes_of(accepts, seed), likes_of(accepts, seed + 50)):
                for holding in all_holdings(accepts)[:6]:
                    for sizes in ALL_SIZES:
                        self.check(accepts, likes, holding, sizes)

    def test_six_people(self):
        found = 0
        for seed in range(5):
            accepts = some_accepts(seed, 6, 24)
            likes = likes_of(accepts, seed)
            for holding in all_holdings(accepts)[::40]:
                for sizes in ((2,), (2, 3), (4, 6), (2, 3, 4, 5, 6)):
                    found += len(self.check(accepts, likes, holding, sizes))
        self.assertGreater(found, 20)

    def test_all_want_the_next_item(self):
        likes = tuple((person, tuple(item for other, item in turned(6) + plain(6) if other == person))
                      for person in PEOPLE[:6])
        ring = PEOPLE[:1] + PEOPLE[5:0:-1]
        self.assertEqual(self.check(circle(6), likes, plain(6), (2, 3, 4, 5, 6)), [ring])
        self.assertEqual(self.check(circle(6), likes, plain(6), (2, 3, 4, 5)), [])
        self.assertEqual(self.check(circle(6), likes, turned(6), (2, 3, 4, 5, 6)), [])

    def test_no_sizes_and_sizes_above_the_number_of_people(self):
        for sizes in ((), (4,), (5, 8), (HUGE,)):
            self.assertEqual(self.check(MORE, LIKES_MORE, FIRST, sizes), [])
        self.assertEqual(self.check(MORE, LIKES_MORE, FIRST, (3, HUGE)), [TURN])

    def test_same_names(self):
        likes = (("a", ("abcdefgh", "a")), ("abcdefgh", ("a", "abcdefgh")))
        holding = (("a", "a"), ("abcdefgh", "abcdefgh"))
        self.assertEqual(self.check(SAME, likes, holding, (2,)), [("a", "abcdefgh")])

    def test_one_by_one_and_side_by_side(self):
        accepts = full(5)
        likes = likes_of(accepts, 8)
        one = fair_trades(accepts, likes, plain(5), sizes=(2, 3, 4))
        other = fair_trades(accepts, likes, plain(5), sizes=(2, 3, 4))
        self.assertIs(iter(one), one)
        self.assertEqual(next(one), next(other))
        self.assertTrue(all(this == that for this, that in zip(one, other, strict=True)))

    def test_sizes_by_name_only(self):
        for function in (fair_trades, is_settled):
            with self.assertRaises(TypeError):
                function(THREE, LIKES, FIRST, (2,))


class GuaranteeTests(unittest.TestCase):
    def ranks(self, likes, holding):
        return sum(rank_of(likes, person, item) for person, item in holding)

    def test_each_fair_ring_lowers_the_ranks(self):
        for seed, accepts in enumerate(all_accepts()):
            likes = likes_of(accepts, seed)
            for holding in all_holdings(accepts):
                for ring in fair_trades(accepts, likes, holding, sizes=(2, 3, 4)):
                    after = tuple(sorted(handed(holding, ring).items()))
                    self.assertLess(self.ranks(likes, after), self.ranks(likes, holding))

    def test_settled_for_some_sizes_is_settled_for_fewer(self):
        for seed, accepts in enumerate(all_accepts()):
            likes = likes_of(accepts, seed)
            for holding in all_holdings(accepts):
                for sizes, fewer in (((2, 3), (2,)), ((2, 3), (3,)), ((2, 3, 4), (2, 4)), ((2,), ())):
                    if is_settled(accepts, likes, holding, sizes=sizes):
                        self.assertTrue(is_settled(accepts, likes, holding, sizes=fewer))

    def test_sizes_up_to_the_longest_trade_suffice(self):
        for seed, accepts in enumerate(all_accepts()):
            holdings = all_holdings(accepts)
            longest = max((len(ring) for holding in holdings for ring, after in all_steps(accepts, holding, (2, 3, 4))),
                          default=0)
            some = tuple(range(2, longest + 1))
            for likes in (likes_of(accepts, seed), likes_of(accepts, seed + 9)):
                for holding in holdings:
                    if is_settled(accepts, likes, holding, sizes=some):
                        self.assertTrue(is_settled(accepts, likes, holding, sizes=(2, 3, 4, 5, 6)))

    def test_fewer_do_not_suffice_for_some_likes(self):
        for accepts in all_accepts():
            holding = all_holdings(accepts)[0]
            for ring, after in all_steps(accepts, holding, (3, 4)):
                # The people of the ring like best what they get, then what they have; the others what they have.
                likes = tuple(
                    (person, tuple(sorted((item for other, item in accepts if other == person), key=lambda item: (
                        item != dict(after)[person], item != dict(holding)[person], item))))
                    for person in sorted(dict(holding))
                )
                fewer = tuple(range(2, len(ring)))
                self.assertTrue(is_settled(accepts, likes, holding, sizes=fewer))
                self.assertFalse(is_settled(accepts, likes, holding, sizes=(2, 3, 4)))
