"""[2], [6], [8], [34]: trees of shortcuts."""

import unittest

from handround.barerings import widest_bare
from handround.errors import InvalidTrade
from handround.splitchecker import lets_split
from handround.splitpapers import split_paper
from tests.calls import asked, raises, returns
from tests.papermodel import ALL_SIZES, all_trees, leaves_of, told_split
from tests.samples import (
    FIRST, HUGE, LAST, MORE, PEOPLE, THREE, all_accepts, all_holdings, all_steps, circle, full, plain, some_accepts,
)
from tests.test_shortcuts import TURN, WHOLE, bars, rings_and_holdings, with_more

LEAF = ("ring",)


class PaperTests(unittest.TestCase):
    def check(self, accepts, holding, ring, sizes):
        given = {"accepts": accepts, "holding": holding, "ring": ring}
        tree = split_paper(accepts, holding, ring, sizes=sizes)
        self.assertEqual(asked(self, split_paper, given, sizes=sizes), returns(tree))
        if tree is not None:
            self.assertEqual(told_split(accepts, holding, ring, tree, sizes), ("true", leaves_of(tree)))
            self.assertEqual(lets_split(accepts, holding, ring, tree, sizes=sizes), leaves_of(tree))
        return tree

    def test_by_hand(self):
        self.assertEqual(self.check(MORE, FIRST, TURN, (2,)), ("split", ("cy", "cot"), LEAF, LEAF))
        self.assertIsNone(self.check(THREE, FIRST, TURN, (2,)))
        self.assertEqual(self.check(THREE, FIRST, TURN, (3,)), LEAF)
        self.assertEqual(self.check(MORE, FIRST, ("bob", "cy"), (2,)), LEAF)
        self.assertIsNone(self.check(MORE, FIRST, ("bob", "cy"), (3,)))

    def test_against_all_trees(self):
        found = set()
        for accepts, holding, ring in rings_and_holdings():
            if len(ring) < 6:
                for sizes in ALL_SIZES:
                    trees = all_trees(accepts, holding, ring, sizes) if len(ring) < 5 or sizes != (2,) else None
                    tree = self.check(accepts, holding, ring, sizes)
                    if trees is not None:
                        self.assertIs(tree is None, trees == [], (accepts, holding, ring, sizes))
                        self.assertIn(tree, trees or [None])
                    found.add(tree is None)
        self.assertEqual(found, {True, False})

    def test_a_ring_that_is_allowed_at_once(self):
        for accepts, holding, ring in rings_and_holdings():
            for sizes in ((len(ring),), (len(ring), HUGE)):
                self.assertEqual(self.check(accepts, holding, ring, sizes), LEAF)
            if len(ring) > 2:
                self.assertIsNotNone(self.check(accepts, holding, ring, (2, len(ring))))

    def test_no_tree(self):
        for many in range(3, 9):
            ring = PEOPLE[:1] + PEOPLE[many - 1:0:-1]
            self.assertIsNone(self.check(circle(many), plain(many), ring, tuple(range(2, many))))
        for sizes in ((), (9,), (HUGE,), (9, 12)):
            self.assertIsNone(self.check(full(8), plain(8), PEOPLE, sizes))

    def test_which_sizes_make_eight(self):
        # Each split adds a person: the sizes less 1 sum up to 7.
        for sizes, leaves in (((2,), 7), ((3,), None), ((4,), None), ((3, 5), None), ((7,), None), ((2, 7), 2),
                              ((5, 4), 2), ((8,), 1)):
            tree = self.check(full(8), plain(8), WHOLE, tuple(sorted(sizes)))
            self.assertIs(tree is None, leaves is None)
            if leaves is not None:
                self.assertGreaterEqual(leaves_of(tree), leaves)
        self.assertIsNotNone(self.check(full(7), plain(7), PEOPLE[:7], (3,)))

    def test_the_first_shortcut_does_not_always_do(self):
        # With one tree alone, each choice on the way matters.
        found = 0
        for seed in range(60):
            accepts = with_more(6, seed, 4)
            ring = PEOPLE[:1] + PEOPLE[5:0:-1]
            for sizes in ((2, 3), (2, 4), (3, 4)):
                trees = all_trees(accepts, plain(6), ring, sizes)
                tree = self.check(accepts, plain(6), ring, sizes)
                self.assertIn(tree, trees or [None])
                found += 0 < len(trees) < 3
        self.assertGreater(found, 5)

    def test_eight_people(self):
        for seed in range(12):
            for extra in (5, 9, 14):
                accepts = with_more(8, seed, extra)
                for sizes in ((2, 3), (2, 3, 4)):
                    tree = self.check(accepts, plain(8), WHOLE, sizes)
                    if extra == 5:
                        self.assertIs(tree is None, all_trees(accepts, plain(8), WHOLE, sizes) == [])

    def test_sizes_up_to_the_widest_bare_ring(self):
        for accepts in all_accepts() + [some_accepts(seed, 4, 5) for seed in range(6)] + [with_more(6, 3, 6)]:
            sizes = tuple(range(2, widest_bare(accepts) + 1))
            for holding in all_holdings(accepts)[:4]:
                for ring, after in all_steps(accepts, holding, (2, 3, 4, 5, 6))[:30]:
                    self.assertIsNotNone(self.check(accepts, holding, ring, sizes))

    def test_rings_that_are_not_possible(self):
        for given, reason in bars():
            for sizes in ((2,), (2, 3), (), (8,)):
                found = asked(self, split_paper, dict(zip(("accepts", "holding", "ring"), given)), sizes=sizes)
                self.assertEqual(found, raises(InvalidTrade, given[2], reason))

    def test_after_other_trades(self):
        self.assertEqual(self.check(MORE, LAST, ("ann", "bob", "cy"), (2,)), ("split", ("cy", "cot"), LEAF, LEAF))
        self.assertIsNone(self.check(THREE, LAST, ("ann", "bob", "cy"), (2,)))

    def test_sizes_by_name_only(self):
        with self.assertRaises(TypeError):
            split_paper(MORE, FIRST, TURN, (2,))
