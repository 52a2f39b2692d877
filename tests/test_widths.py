"""[2], [5], [8], [25], [26], [29]: widths and classes."""

import unittest

from handround.reaching import reachable
from handround.widths import class_tree, classes, width
from tests.calls import asked, returns
from tests.papermodel import ALL_SIZES
from tests.samples import (
    BOTH, FIRST, HUGE, LAST, MORE, NONE, SAME, THREE, all_accepts, all_holdings, circle, distances, full, least_width,
    plain, rings_between, some_accepts, turned,
)

SOME = all_accepts() + [NONE, some_accepts(3, 5, 5), some_accepts(4, 5, 9), plain(3)]


def classes_by_words(accepts, sizes):
    """Each set of holdings that can be reached from one of them."""
    return tuple(sorted({tuple(sorted(distances(accepts, one, sizes))) for one in all_holdings(accepts)}))


class WidthTests(unittest.TestCase):
    def test_examples(self):
        self.assertEqual([width(THREE, FIRST, LAST), width(MORE, FIRST, LAST)], [3, 2])
        self.assertEqual(asked(self, width, {"accepts": THREE, "begin": FIRST, "goal": LAST}), returns(3))

    def test_equal_holdings(self):
        self.assertEqual(width(THREE, FIRST, FIRST), 1)
        self.assertEqual(width(full(6), plain(6), plain(6)), 1)

    def test_against_a_direct_search(self):
        for accepts in all_accepts():
            for begin in all_holdings(accepts)[:3]:
                for goal in all_holdings(accepts):
                    self.assertEqual(width(accepts, begin, goal), least_width(accepts, begin, goal))

    def test_up_to_eight_people(self):
        for many in range(2, 9):
            self.assertEqual(width(circle(many), plain(many), turned(many)), many)
        for seed in range(6):
            accepts = some_accepts(seed, 6, 7)
            holdings = all_holdings(accepts)
            for goal in holdings[::3]:
                self.assertEqual(width(accepts, holdings[0], goal), least_width(accepts, holdings[0], goal))

    def test_consequences(self):
        for accepts in all_accepts():
            holdings = all_holdings(accepts)[:5]
            wide = {(one, other): width(accepts, one, other) for one in holdings for other in holdings}
            for (one, other), most in wide.items():
                self.assertEqual(most, wide[other, one])
                self.assertLessEqual(most, max(map(len, rings_between(one, other)), default=1))
                for third in holdings:
                    self.assertLessEqual(most, max(wide[one, third], wide[third, other]))

    def test_more_acceptances(self):
        for accepts in all_accepts():
            holdings = all_holdings(accepts)[:4]
            every = tuple((person, item) for person in dict(holdings[0]) for item in dict(holdings[0]).values())
            for begin in holdings:
                for goal in holdings:
                    self.assertLessEqual(width(tuple(sorted(every)), begin, goal), width(accepts, begin, goal))


class ClassTests(unittest.TestCase):
    def check(self, accepts, sizes):
        expected = classes_by_words(accepts, sizes)
        self.assertEqual(asked(self, classes, {"accepts": accepts}, sizes=sizes), returns(expected), (accepts, sizes))
        return expected

    def test_examples(self):
        self.assertEqual(classes(THREE, sizes=(3,)), ((FIRST, LAST),))
        self.assertEqual(classes(THREE), ((FIRST,), (LAST,)))
        self.assertEqual(len(classes(MORE)), 1)

    def test_against_a_direct_search(self):
        for accepts in SOME:
            for sizes in ALL_SIZES:
                self.check(accepts, sizes)

    def test_against_reachable(self):
        for accepts in SOME:
            for sizes in ((), (2,), (3,), (2, 4)):
                found = classes(accepts, sizes=sizes)
                # Each holding is in exactly one class.
                self.assertEqual(sorted(holding for some in found for holding in some), all_holdings(accepts))
                for some in found:
                    for holding in some:
                        self.assertEqual(reachable(accepts, holding, sizes=sizes), some)

    def test_no_holding(self):
        for sizes in ((), (2,), (2, 3), (HUGE,)):
            self.assertEqual(self.check(NONE, sizes), ())

    def test_no_sizes_and_sizes_above_the_number_of_people(self):
        for sizes in ((), (4,), (5, 8), (HUGE,)):
            self.assertEqual(self.check(full(3), sizes), tuple((holding,) for holding in all_holdings(full(3))))
        self.assertEqual(self.check(full(3), (2, HUGE)), (tuple(all_holdings(full(3))),))

    def test_odd_sizes(self):
        self.assertEqual([len(some) for some in self.check(full(4), (3,))], [12, 12])
        self.assertEqual([len(some) for some in self.check(full(3), (3, 5))], [3, 3])

    def test_six_people(self):
        for seed in range(3):
            accepts = some_accepts(seed, 6, 7)
            for sizes in ((2,), (3, 4)):
                self.check(accepts, sizes)
        self.assertEqual([len(some) for some in classes(full(6))], [720])
        self.assertEqual([len(some) for some in classes(full(6), sizes=(3,))], [360, 360])
        self.assertEqual(self.check(circle(6), (2, 3, 4, 5)), ((plain(6),), (turned(6),)))
        self.assertEqual(classes(circle(8), sizes=(8,)), ((plain(8), turned(8)),))

    def test_the_kinds(self):
        found = classes(MORE, sizes=(3,))
        self.assertEqual([type(found), type(found[0]), type(found[0][0])], [tuple] * 3)

    def test_more_acceptances_and_sizes(self):
        for seed in range(6):
            accepts = some_accepts(seed, 4, 4)
            more = tuple(sorted({*accepts, *some_accepts(seed, 4, 8)}))
            for wider in (classes(accepts, sizes=(2, 3)), classes(more)):
                for some in classes(accepts):
                    self.assertEqual(sum(set(some) <= set(other) for other in wider), 1)

    def test_sizes_by_name_only(self):
        with self.assertRaises(TypeError):
            classes(MORE, (2,))


class TreeTests(unittest.TestCase):
    def check(self, accepts):
        many = len({person for person, item in accepts})
        expected = tuple(classes_by_words(accepts, range(2, most + 1)) for most in range(1, many + 1))
        self.assertEqual(asked(self, class_tree, {"accepts": accepts}), returns(expected), accepts)
        return expected

    def test_examples(self):
        self.assertEqual([len(some) for some in class_tree(THREE)], [2, 2, 1])
        self.assertEqual([len(some) for some in class_tree(MORE)], [3, 1, 1])

    def test_against_a_direct_search(self):
        for accepts in SOME:
            self.check(accepts)

    def test_against_classes(self):
        for accepts in SOME:
            many = len({person for person, item in accepts})
            for most, some in enumerate(class_tree(accepts), start=1):
                self.assertEqual(classes(accepts, sizes=tuple(range(2, most + 1))), some)
            self.assertEqual(len(class_tree(accepts)), many)

    def test_no_holding(self):
        self.assertEqual(self.check(NONE), ((), (), ()))

    def test_two_people(self):
        for accepts in (BOTH, SAME):
            first, last = all_holdings(accepts)
            self.assertEqual(self.check(accepts), (((first,), (last,)), ((first, last),)))

    def test_six_people(self):
        self.assertEqual(self.check(circle(6)), (((plain(6),), (turned(6),)),) * 5 + (((plain(6), turned(6)),),))
        self.check(some_accepts(5, 6, 6))

    def test_the_width_is_the_first_level_with_both_in_one_class(self):
        for accepts in SOME:
            tree = class_tree(accepts)
            for begin in all_holdings(accepts)[:4]:
                for goal in all_holdings(accepts):
                    together = [any({begin, goal} <= set(one) for one in level) for level in tree]
                    self.assertEqual(together.index(True) + 1, width(accepts, begin, goal))
                    self.assertEqual(together, sorted(together))
