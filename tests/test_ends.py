"""[2], [7], [8], [49], [52]: ends."""

import random
import unittest

from handround.endpapers import end_paper
from handround.ends import best_end_for, ends_of, longest_ring
from handround.errors import UnknownPerson
from handround.fairness import is_settled
from tests.calls import asked, raises, returns
from tests.papermodel import ALL_SIZES, cases, fair_steps, likes_of, reached
from tests.samples import (
    BOTH, FIRST, HUGE, LAST, MORE, NONE, PEOPLE, SAME, THREE, all_accepts, all_holdings, all_steps, circle, full, plain,
    some_accepts, turned,
)

LIKES = (("ann", ("cot", "bed")), ("bob", ("den", "cot")), ("cy", ("bed", "den")))
LIKES_MORE = (("ann", ("cot", "bed")), ("bob", ("den", "cot")), ("cy", ("bed", "cot", "den")))
MIDDLE = (("ann", "bed"), ("bob", "den"), ("cy", "cot"))


def ends(accepts, likes, holding, sizes):
    known = reached(holding, lambda at: fair_steps(accepts, likes, at, sizes))
    return tuple(sorted(end for end in known if not fair_steps(accepts, likes, end, sizes)))


class EndsTests(unittest.TestCase):
    def check(self, accepts, likes, holding, sizes):
        given = {"accepts": accepts, "likes": likes, "holding": holding}
        expected = ends(accepts, likes, holding, sizes)
        self.assertEqual(asked(self, ends_of, given, sizes=sizes), returns(expected), (given, sizes))
        self.assertGreater(len(expected), 0)
        for person in sorted(dict(accepts)):
            ranks = [(dict(likes)[person].index(dict(end)[person]), end) for end in expected]
            found = asked(self, best_end_for, {**given, "person": person}, sizes=sizes)
            self.assertEqual(found, returns(min(ranks)), (given, person, sizes))
        return expected

    def test_by_hand(self):
        self.assertEqual(self.check(THREE, LIKES, FIRST, (2,)), (FIRST,))
        self.assertEqual(self.check(THREE, LIKES, FIRST, (3,)), (LAST,))
        self.assertEqual(self.check(THREE, LIKES, LAST, (2, 3)), (LAST,))
        self.assertEqual(self.check(MORE, LIKES_MORE, FIRST, (2,)), (LAST,))
        self.assertEqual(self.check(MORE, LIKES_MORE, MIDDLE, (3,)), (MIDDLE,))

    def test_examples(self):
        self.assertEqual(best_end_for(THREE, LIKES, FIRST, "ann", sizes=(3,)), (0, LAST))
        self.assertEqual(best_end_for(THREE, LIKES, FIRST, "ann"), (1, FIRST))
        self.assertEqual(longest_ring(THREE), 3)

    def test_against_all_fair_rows(self):
        several = 0
        for seed, (accepts, begin, goal) in enumerate(cases()):
            for likes in (likes_of(accepts, seed), likes_of(accepts, seed + 20)):
                for sizes in ALL_SIZES:
                    several += len(self.check(accepts, likes, begin, sizes)) > 1
                    self.check(accepts, likes, goal, sizes)
        self.assertGreater(several, 10)

    def test_settled_already(self):
        for seed, (accepts, begin, goal) in enumerate(cases()):
            likes = likes_of(accepts, seed)
            for sizes in ALL_SIZES:
                for end in ends_of(accepts, likes, begin, sizes=sizes):
                    self.assertTrue(is_settled(accepts, likes, end, sizes=sizes))
                    self.assertEqual(self.check(accepts, likes, end, sizes), (end,))

    def test_the_least_of_the_best_ends(self):
        several = 0
        for seed in range(30):
            accepts = some_accepts(seed, 5, 18)
            likes = likes_of(accepts, seed)
            begin = random.Random(seed).choice(all_holdings(accepts))
            for sizes in ((2,), (2, 3)):
                found = self.check(accepts, likes, begin, sizes)
                for person, items in likes:
                    ranks = sorted(items.index(dict(end)[person]) for end in found)
                    several += ranks[1:2] == ranks[:1] and ranks[-1] > ranks[0]
        self.assertGreater(several, 5)

    def test_no_sizes_and_sizes_above_the_number_of_people(self):
        for sizes in ((), (4,), (5, 8), (HUGE,)):
            self.assertEqual(self.check(MORE, LIKES_MORE, FIRST, sizes), (FIRST,))
        self.assertEqual(self.check(MORE, LIKES_MORE, FIRST, (3, HUGE)), (LAST,))

    def test_six_people(self):
        for seed in range(5):
            accepts = some_accepts(seed, 6, 14)
            likes = likes_of(accepts, seed)
            for sizes in ((2,), (2, 3), (2, 3, 4, 5, 6)):
                self.check(accepts, likes, all_holdings(accepts)[0], sizes)
        likes = tuple((person, tuple(item for other, item in turned(6) + plain(6) if other == person))
                      for person in PEOPLE[:6])
        self.assertEqual(self.check(circle(6), likes, plain(6), (2, 3, 6)), (turned(6),))
        self.assertEqual(self.check(circle(6), likes, plain(6), (2, 3, 4, 5)), (plain(6),))

    def test_the_full_market_of_six(self):
        likes = likes_of(full(6), 4)
        found = ends_of(full(6), likes, plain(6))
        self.assertEqual(found, tuple(sorted(set(found))))
        for end in found:
            self.assertTrue(is_settled(full(6), likes, end))
            self.assertEqual(end_paper(full(6), likes, plain(6), end)[0], "row")
        self.assertEqual(found, ends(full(6), likes, plain(6), (2,)))

    def test_unknown_person(self):
        for person in ("zoe", "a", "bed", "annn", "dan"):
            given = {"accepts": MORE, "likes": LIKES_MORE, "holding": FIRST, "person": person}
            for sizes in ((2,), (), (2, 3)):
                self.assertEqual(asked(self, best_end_for, given, sizes=sizes), raises(UnknownPerson, person))

    def test_the_very_object(self):
        person = "z" * 7
        with self.assertRaises(UnknownPerson) as caught:
            best_end_for(MORE, LIKES_MORE, FIRST, person)
        self.assertIs(caught.exception.person, person)

    def test_ends_and_end_papers(self):
        for seed, (accepts, begin, _) in enumerate(cases()):
            likes = likes_of(accepts, seed + 7)
            for sizes in ((2,), (2, 3), ()):
                found = ends_of(accepts, likes, begin, sizes=sizes)
                for goal in all_holdings(accepts)[:8]:
                    paper = end_paper(accepts, likes, begin, goal, sizes=sizes)
                    self.assertIs(paper[0] == "row", goal in found)

    def test_sizes_by_name_only(self):
        for function, given in ((ends_of, ()), (best_end_for, ("ann",))):
            with self.assertRaises(TypeError):
                function(MORE, LIKES_MORE, FIRST, *given, (2,))


class LongestTests(unittest.TestCase):
    def check(self, accepts, expected):
        self.assertEqual(asked(self, longest_ring, {"accepts": accepts}), returns(expected), accepts)

    def by_words(self, accepts):
        sizes = range(2, len({person for person, item in accepts}) + 1)
        found = [len(ring) for holding in all_holdings(accepts) for ring, after in all_steps(accepts, holding, sizes)]
        return max(found, default=0)

    def test_by_hand(self):
        self.check(THREE, 3)
        self.check(MORE, 3)
        self.check(BOTH, 2)
        self.check(SAME, 2)
        self.check(full(6), 6)
        self.check(circle(8), 8)

    def test_none(self):
        self.check(NONE, 0)
        self.check((("ann", "bed"), ("bob", "cot")), 0)
        self.check((("ann", "bed"), ("ann", "cot"), ("bob", "cot")), 0)
        self.check(plain(6), 0)

    def test_against_all_rings_in_all_holdings(self):
        found = set()
        not_at_first = 0
        for accepts in all_accepts() + [some_accepts(seed, many, extra) for seed in range(8) for many in (3, 4, 5)
                                        for extra in (1, 3, many, 2 * many)]:
            expected = self.by_words(accepts)
            self.check(accepts, expected)
            found.add(expected)
            not_at_first += expected > 0 and not all_steps(accepts, all_holdings(accepts)[0], (expected,))
        self.assertEqual(found, {0, 2, 3, 4, 5})
        self.assertGreater(not_at_first, 0)

    def test_who_is_settled_for_all_sizes(self):
        for seed in range(10):
            accepts = some_accepts(seed, 4, 4)
            most = longest_ring(accepts)
            likes = likes_of(accepts, seed)
            for holding in all_holdings(accepts):
                if is_settled(accepts, likes, holding, sizes=tuple(range(2, most + 1))):
                    self.assertTrue(is_settled(accepts, likes, holding, sizes=(2, 3, 4, 5, HUGE)))

    def test_likes_that_only_the_longest_ring_serves(self):
        # [8] (H7): whoever is in the ring likes what they get there best, and what they hold next.
        for seed in range(10):
            accepts = some_accepts(seed, 4, 6)
            most = longest_ring(accepts)
            for holding in all_holdings(accepts):
                for ring, after in all_steps(accepts, holding, (most,) if most else ()):
                    likes = []
                    for person in sorted(dict(accepts)):
                        held, got = dict(holding)[person], dict(after)[person]
                        rest = [item for other, item in accepts if other == person and item not in (held, got)]
                        likes.append((person, tuple(dict.fromkeys((got, held, *rest)))))
                    smaller = tuple(range(2, most))
                    self.assertTrue(is_settled(accepts, tuple(likes), holding, sizes=smaller))
                    self.assertFalse(is_settled(accepts, tuple(likes), holding, sizes=(most,)))
