"""[2], [8], [9], [34], [35]: the checker of trees of shortcuts."""

import random
import unittest

from handround.errors import InvalidPaper, InvalidTrade
from handround.splitchecker import lets_split
from handround.splitpapers import split_paper
from tests.calls import asked, checked, raises
from tests.papermodel import ALL_SIZES, all_trees, leaves_of, pool_of, told, told_split, wrong_papers
from tests.samples import ANY, DEEP, FIRST, HUGE, MORE, PEOPLE, STRANGE, THREE, circle, full, plain
from tests.test_shortcuts import TURN, WHOLE, bars, rings_and_holdings, with_more

LEAF = ("ring",)
TREE = ("split", ("cy", "cot"), LEAF, LEAF)
FIVE = PEOPLE[:5]


class CheckerTests(unittest.TestCase):
    def check(self, accepts, holding, ring, thing, sizes, expected):
        given = {"accepts": accepts, "holding": holding, "ring": ring, "thing": thing}
        checked(self, lets_split, told_split, given, sizes, expected)

    def refuse(self, thing, word, at, accepts=MORE, sizes=(2,), ring=TURN):
        """That it is no tree for the ring in FIRST."""
        self.check(accepts, FIRST, ring, thing, sizes, (word, at))


class TreeTests(CheckerTests):
    def test_example(self):
        self.check(MORE, FIRST, TURN, TREE, (2,), 2)

    def test_a_ring_that_is_allowed(self):
        self.check(MORE, FIRST, TURN, LEAF, (3,), 1)
        self.check(THREE, FIRST, TURN, LEAF, (2, 3, HUGE), 1)
        self.check(MORE, FIRST, ("bob", "cy"), LEAF, (2,), 1)
        self.check(circle(8), plain(8), WHOLE, LEAF, (8,), 1)
        self.check(MORE, FIRST, TURN, TREE, (2, 3), 2)

    def test_all_trees(self):
        many = 0
        for accepts, holding, ring in rings_and_holdings():
            if len(ring) < 5:
                for sizes in ((2,), (2, 3), (3,)):
                    for tree in all_trees(accepts, holding, ring, sizes)[:20]:
                        self.check(accepts, holding, ring, tree, sizes, leaves_of(tree))
                        many += 1
        self.assertGreater(many, 500)

    def test_trees_of_eight_people(self):
        for sizes, leaves in (((2,), 7), ((2, 3), None), ((4, 5), None), ((2, 7), None)):
            tree = split_paper(full(8), plain(8), WHOLE, sizes=sizes)
            self.check(full(8), plain(8), WHOLE, tree, sizes, leaves or leaves_of(tree))


class RefusedTests(CheckerTests):
    def test_size(self):
        self.refuse(LEAF, "size", 0)
        self.refuse(LEAF, "size", 0, sizes=())
        self.refuse(LEAF, "size", 0, sizes=(2, 4, HUGE))
        self.refuse(TREE, "size", 1, sizes=(3,))
        self.refuse(TREE, "size", 1, sizes=())

    def test_shortcut(self):
        for pair in (("ann", "cot"), ("ann", "bed"), ("cy", "bed"), ("cy", "den"), ("ann", "den"), ("zoe", "cot"),
                     ("cy", "zip"), ("bob", "bed"), ("cot", "cy")):
            self.refuse(("split", pair, LEAF, LEAF), "shortcut", 0)
            self.refuse(("split", pair, TREE, LEAF), "shortcut", 0, sizes=())
        self.refuse(TREE, "shortcut", 0, accepts=THREE)
        self.refuse(TREE, "shortcut", 0, ring=("bob", "cy"))
        self.refuse(("split", ("cy", "cot"), TREE, LEAF), "shortcut", 1)
        self.refuse(("split", ("cy", "cot"), LEAF, TREE), "shortcut", 2)

    def test_the_numbers_of_the_nodes(self):
        # dan takes what bob holds: dan>eve>ann>bob and dan>cy are left, and each node of one takes from ann.
        one = ("split", ("eve", "bed"), LEAF, LEAF)
        two = ("split", ("dan", "bed"), LEAF, LEAF)
        pair = ("dan", "cot")
        for tree, sizes, expected in (
            (("split", pair, LEAF, LEAF), (2, 4), 2), (("split", pair, LEAF, LEAF), (2,), ("size", 1)),
            (("split", pair, LEAF, LEAF), (4,), ("size", 2)), (("split", pair, one, LEAF), (2, 3), 3),
            (("split", pair, one, LEAF), (2,), ("size", 3)), (("split", pair, two, LEAF), (2,), ("size", 2)),
            (("split", pair, one, LEAF), (3,), ("size", 2)), (("split", pair, one, two), (2, 3), ("shortcut", 4)),
            (("split", pair, LEAF, one), (2, 4), ("shortcut", 2)), (("split", pair, two, one), (3,), ("size", 3)),
        ):
            self.check(full(5), plain(5), FIVE, tree, sizes, expected)

    def test_each_node_of_a_large_tree(self):
        tree = split_paper(full(8), plain(8), WHOLE, sizes=(2,))
        for sizes in ((), (3,), (HUGE,)):
            expected = told_split(full(8), plain(8), WHOLE, tree, sizes)
            self.assertEqual(expected[0], "size")
            self.check(full(8), plain(8), WHOLE, tree, sizes, expected)
        found = set()
        for path in range(13):
            expected = told_split(full(8), plain(8), WHOLE, with_other(tree, path), (2,))
            self.check(full(8), plain(8), WHOLE, with_other(tree, path), (2,), expected)
            found.add(expected)
        self.assertEqual(found, {("shortcut", at) for at in range(13)})

    def test_an_earlier_node_comes_first(self):
        self.refuse(("split", ("ann", "bed"), ("split", ("zoe", "bed"), LEAF, LEAF), LEAF), "shortcut", 0)
        self.refuse(("split", ("cy", "cot"), LEAF, TREE), "size", 1, sizes=(3,))
        self.refuse(("split", ("cy", "cot"), TREE, TREE), "shortcut", 1, sizes=())

    def test_rings_that_are_not_possible_come_first(self):
        for given, reason in bars():
            for thing in (LEAF, TREE, None, ("split",), (), True, ["ring"]):
                for sizes in ((2,), (), (2, 3, 8)):
                    named = dict(zip(("accepts", "holding", "ring", "thing"), (*given, thing)))
                    found = asked(self, lets_split, named, sizes=sizes)
                    self.assertEqual(found, raises(InvalidTrade, given[2], reason))


def with_other(tree, at):
    """The tree with a node in the place of the one with this number that splits by a pair that is no shortcut."""
    if at == 0:
        return ("split", ("zoe", "bed"), LEAF, LEAF)
    _, pair, one, other = tree
    many = nodes(one)
    if at <= many:
        return ("split", pair, with_other(one, at - 1), other)
    return ("split", pair, one, with_other(other, at - 1 - many))


def nodes(tree):
    return 1 if tree == LEAF else 1 + nodes(tree[2]) + nodes(tree[3])


class ShapeTests(CheckerTests):
    def test_any_value(self):
        for thing in ANY:
            self.refuse(thing, "shape", -1)

    def test_words_and_lengths(self):
        pair = ("cy", "cot")
        for thing in (
            (), ("ring", ()), ("ring", "ring"), ["ring"], "ring", ("rings",), ("Ring",), ("",), (None,), (("ring",),),
            ("split",), ("split", pair), ("split", pair, LEAF), ("split", pair, LEAF, LEAF, LEAF),
            ("split", LEAF, LEAF), ["split", pair, LEAF, LEAF], ("splits", pair, LEAF, LEAF),
            ("ring", pair, LEAF, LEAF), ("tree", pair, LEAF, LEAF), (True, pair, LEAF, LEAF), (None, pair, LEAF, LEAF),
            ("split", pair, LEAF, None), ("split", pair, None, LEAF), ("split", pair, "ring", LEAF),
            ("split", LEAF, pair, LEAF), ("row", (TURN,)), ("closed", (FIRST,)), ("split", pair, LEAF, ["ring"]),
            ("split", pair, ("ring", 0), LEAF), ("split", pair, (), LEAF), ("split", pair, TREE, ()),
        ):
            self.refuse(thing, "shape", -1)

    def test_pairs(self):
        wrong = (0, 2, "cy", ("cy",), ("cy", "cot", "den"), ["cy", "cot"], ("cy", "Cot"), ("cy", 1), TREE)
        for pair in STRANGE + wrong:
            self.refuse(("split", pair, LEAF, LEAF), "shape", -1)
            self.refuse(("split", ("cy", "cot"), LEAF, ("split", pair, LEAF, LEAF)), "shape", -1)

    def test_parts(self):
        for part in ANY:
            self.refuse(("split", ("cy", "cot"), part, LEAF), "shape", -1)
            self.refuse(("split", ("cy", "cot"), LEAF, part), "shape", -1)
            self.refuse(("split", ("cy", "cot"), TREE, ("split", ("cy", "cot"), LEAF, part)), "shape", -1)

    def test_the_shape_comes_first(self):
        self.refuse(("split", ("ann", "bed"), LEAF, ("split", ("cy", "cot"), LEAF, None)), "shape", -1)
        self.refuse(("split", ("cy", "cot"), LEAF, None), "shape", -1, sizes=())

    def test_deep_trees(self):
        tree = LEAF
        for _ in range(28):
            tree = ("split", ("cy", "cot"), LEAF, tree)
        self.refuse(tree, "shortcut", 2)
        for _ in range(5000):
            tree = ("split", ("cy", "cot"), tree, LEAF)
        with self.assertRaises(InvalidPaper) as caught:
            lets_split(MORE, FIRST, TURN, tree)
        self.assertEqual((caught.exception.word, caught.exception.at), ("shortcut", 1))
        with self.assertRaises(InvalidPaper) as caught:
            lets_split(MORE, FIRST, TURN, ("split", ("cy", "cot"), tree, DEEP))
        self.assertEqual((caught.exception.word, caught.exception.at), ("shape", -1))

    def test_an_error_changes_nothing(self):
        thing = ["split", ["cy", "cot"], ["ring"], ["ring"]]
        self.assertEqual(told(lets_split, MORE, FIRST, TURN, thing), ("shape", -1))
        self.assertEqual(thing, ["split", ["cy", "cot"], ["ring"], ["ring"]])

    def test_sizes_by_name_only(self):
        with self.assertRaises(TypeError):
            lets_split(MORE, FIRST, TURN, TREE, (2,))


class ModelTests(CheckerTests):
    def compare(self, accepts, holding, ring, thing, sizes):
        found = told(lets_split, accepts, holding, ring, thing, sizes=sizes)
        expected = told_split(accepts, holding, ring, thing, sizes)
        self.assertEqual(found, expected, (accepts, holding, ring, thing, sizes))
        if found[0] == "true":
            self.assertIsNotNone(split_paper(accepts, holding, ring, sizes=sizes))
        return found[0]

    def test_changed_trees(self):
        words = set()
        chance = random.Random(4)
        for seed, (accepts, holding, ring) in enumerate(chance.sample(rings_and_holdings(), 60)):
            for sizes in ((2,), (2, 3), (3,), (2, 3, 4)):
                tree = split_paper(accepts, holding, ring, sizes=sizes)
                papers = [LEAF, TREE] if tree is None else [tree, tree, LEAF]
                pool = [LEAF, TREE, ("split",), "ring", "split"] + list(accepts) + pool_of(full(3))
                for thing in wrong_papers(seed, papers, pool, 25):
                    words.add(self.compare(accepts, holding, ring, thing, sizes))
        self.assertEqual(words, {"true", "shape", "size", "shortcut"})

    def test_trees_for_another_ring_and_other_sizes(self):
        words = set()
        for seed in range(4):
            accepts = with_more(5, seed, 9)
            ring = PEOPLE[:1] + PEOPLE[4:0:-1]
            trees = [split_paper(some, plain(5), ring, sizes=sizes) for some in (accepts, full(5))
                     for sizes in ALL_SIZES]
            trees += [split_paper(full(5), plain(5), FIVE, sizes=sizes) for sizes in ((2,), (2, 3))]
            for thing in [tree for tree in trees if tree is not None]:
                for sizes in ALL_SIZES:
                    words.add(self.compare(accepts, plain(5), ring, thing, sizes))
                    words.add(self.compare(full(5), plain(5), FIVE, thing, sizes))
        self.assertEqual(words, {"true", "size", "shortcut"})
