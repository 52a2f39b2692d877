"""[8], [29], [40], [52]: what holds of the whole program, (H1) to (H8) and the consequences."""

import random
import unittest
from itertools import permutations

from handround.barerings import bare_rings, widest_bare
from handround.differences import difference, needed
from handround.directchecker import lets_direct
from handround.directpapers import direct_paper
from handround.directs import direct_row
from handround.effortchecker import lets_effort
from handround.effortpapers import effort_paper
from handround.efforts import least_detour, least_effort, parity_of
from handround.endchecker import lets_end
from handround.endpapers import end_paper
from handround.ends import best_end_for, ends_of, longest_ring
from handround.errors import InvalidPaper
from handround.fairness import fair_trades, is_settled
from handround.groupchecker import lets_group
from handround.grouppapers import group_paper
from handround.groups import groups_for, least_groups, with_group
from handround.handings import Handing, Ring, Row
from handround.likes import rank_of
from handround.offers import offers_reaching
from handround.reachchecker import lets_reach
from handround.reaching import distance, least_row, reachable, rows_within
from handround.reachpapers import reach_paper
from handround.replaying import is_log, replayed
from handround.splitchecker import lets_split
from handround.splitpapers import split_paper
from handround.trades import after_row, effort_of
from handround.watching import Market
from handround.widthchecker import lets_width
from handround.widthpapers import width_paper
from handround.widths import class_tree, classes, width
from tests.marketmodel import Model, chosen_event
from tests.papermodel import all_trees, fair_steps, group_steps, likes_of, parts, pool_of, reached, wrong_papers
from tests.samples import (
    BOTH, FIRST, HELPED, LAST, MORE, THREE, all_accepts, all_holdings, all_steps, circle, distances, full, least_width,
    some_accepts,
)

SOME = all_accepts() + [HELPED, some_accepts(6, 5, 6)]
SIZES = ((), (2,), (3,), (2, 3), (2, 4), (3, 5), (2, 3, 4, 5))


def sizes_to(most):
    return tuple(range(2, most + 1))


def pairs_of(accepts, many=4):
    holdings = all_holdings(accepts)
    return [(begin, goal) for begin in holdings[:many] for goal in holdings[:many] + holdings[-many:]]


def wider(accepts, seed):
    """The same people with some acceptances more."""
    people, items = sorted(dict(accepts)), sorted({item for person, item in accepts})
    every = [(person, item) for person in people for item in items if (person, item) not in accepts]
    return tuple(sorted(accepts + tuple(random.Random(seed).sample(every, (len(every) + 1) // 2))))


def people_in(rings):
    return {person for ring in rings for person in ring}


class GuaranteeTests(unittest.TestCase):
    def test_h1(self):
        for accepts in SOME:
            for begin, goal in pairs_of(accepts):
                rings = difference(begin, goal)
                for order in list(permutations(rings))[:6]:
                    self.assertEqual(after_row(accepts, begin, *order), goal)
                self.assertEqual(Row(*[Ring(*ring) for ring in rings])(begin), goal)
                # Unique: the effect of a row tells the rings, whatever the way.
                row = least_row(accepts, begin, goal, sizes=(2, 3, 4, 5))
                self.assertEqual(Handing(*row).rings, rings)
                self.assertEqual(Handing.between(begin, goal).rings, rings)

    def test_h2(self):
        for accepts in SOME:
            holdings = all_holdings(accepts)[:6]
            wide = {(one, other): width(accepts, one, other) for one in holdings for other in holdings}
            for (one, other), most in wide.items():
                self.assertEqual(most, wide[other, one])
                for third in holdings:
                    self.assertLessEqual(most, max(wide[one, third], wide[third, other]))

    def test_h3(self):
        for accepts in SOME + [circle(5), some_accepts(9, 5, 3)]:
            most = widest_bare(accepts)
            for begin, goal in pairs_of(accepts):
                row = direct_row(accepts, begin, goal, sizes=sizes_to(most))
                self.assertEqual(effort_of(row), needed(begin, goal))
                for ring, after in all_steps(accepts, begin, (2, 3, 4, 5))[:10]:
                    self.assertIsNotNone(split_paper(accepts, begin, ring, sizes=sizes_to(most)))
            for bare in bare_rings(accepts):
                people, items = [name for name, _ in bare], [item for _, item in bare]
                among = tuple(pair for pair in accepts if pair[0] in people and pair[1] in items)
                begin, goal = all_holdings(among)
                self.assertIsNone(direct_row(among, begin, goal, sizes=sizes_to(len(bare) - 1)))

    def test_h4(self):
        for accepts in SOME[:8]:
            for begin, goal in pairs_of(accepts, 2):
                moving = people_in(difference(begin, goal))
                for row in list(rows_within(accepts, begin, goal, 3, sizes=(2, 3)))[:60]:
                    detour = effort_of(row) - needed(begin, goal)
                    self.assertGreaterEqual(detour, 0)
                    self.assertEqual(detour % 2, 0)
                    self.assertEqual(Row(*[Ring(*ring) for ring in row]).detour, detour)
                    if detour == 0:
                        self.assertLessEqual(people_in(row), moving)

    def test_h5(self):
        for accepts in SOME:
            for begin, goal in pairs_of(accepts):
                for sizes in ((3,), (3, 5), (5,)):
                    if parity_of(begin, goal) == 1:
                        self.assertIsNone(distance(accepts, begin, goal, sizes=sizes))
                        self.assertIsNone(least_effort(accepts, begin, goal, sizes=sizes))
                        self.assertEqual(reach_paper(accepts, begin, goal, sizes=sizes)[0], "closed")

    def check_not_more(self, found, most):
        if most is not None:
            self.assertIsNotNone(found)
            self.assertLessEqual(found, most)

    def test_h6(self):
        for seed, accepts in enumerate(SOME[:10]):
            more = wider(accepts, seed)
            people = tuple(sorted(dict(accepts)))
            for begin, goal in pairs_of(accepts, 2):
                self.check_not_more(width(more, begin, goal), width(accepts, begin, goal))
                for sizes in ((2,), (3,)):
                    for some, allowed in ((more, sizes), (accepts, (2, 3)), (more, (2, 3, 4))):
                        for function in (distance, least_effort, least_detour):
                            self.check_not_more(function(some, begin, goal, sizes=allowed),
                                                function(accepts, begin, goal, sizes=sizes))
                    for group in parts(people):
                        if with_group(accepts, begin, goal, group, sizes=sizes):
                            for person in people:
                                larger = tuple(sorted({*group, person}))
                                self.assertTrue(with_group(accepts, begin, goal, larger, sizes=sizes))

    def test_h7(self):
        for seed, accepts in enumerate(SOME):
            most = longest_ring(accepts)
            likes = likes_of(accepts, seed)
            for holding in all_holdings(accepts)[:12]:
                settled = is_settled(accepts, likes, holding, sizes=sizes_to(most))
                self.assertIs(settled, is_settled(accepts, likes, holding, sizes=sizes_to(8)))
                # Every row of fair trades comes to an end.
                at = holding
                for _ in range(100):
                    fair = list(fair_trades(accepts, likes, at, sizes=(2, 3, 4, 5)))
                    at = after_row(accepts, at, *fair[:1])
                self.assertEqual(fair, [])
            if most > 0:
                self.check_likes_for_the_longest(accepts, most)

    def check_likes_for_the_longest(self, accepts, most):
        begin, ring, after = next((begin, ring, after) for begin in all_holdings(accepts)
                                  for ring, after in all_steps(accepts, begin, (most,)))
        likes = []
        for person in sorted(dict(accepts)):
            best = list(dict.fromkeys((dict(after)[person], dict(begin)[person])))
            rest = [item for other, item in accepts if other == person and item not in best]
            likes.append((person, tuple(best + rest)))
        self.assertTrue(is_settled(accepts, tuple(likes), begin, sizes=sizes_to(most - 1)))
        self.assertEqual(list(fair_trades(accepts, tuple(likes), begin, sizes=sizes_to(8))), [ring])


class PaperTests(unittest.TestCase):
    """(H8): what an accepted paper states is true, no matter who wrote it."""

    def accepted(self, function, *given, **named):
        """What the checker returns, in a list, or an empty list for an error."""
        try:
            return [function(*given, **named)]
        except InvalidPaper:
            return []

    def test_papers_that_are_made_and_papers_that_are_changed(self):
        right = 0
        for seed, accepts in enumerate([THREE, MORE, BOTH, full(3), circle(4), some_accepts(3, 4, 6)]):
            pool = pool_of(accepts)
            likes = likes_of(accepts, seed)
            people = tuple(sorted(dict(accepts)))
            for at, (begin, goal) in enumerate(pairs_of(accepts, 2)):
                group = parts(people)[(seed + 5 * at) % 2 ** len(people)]
                for sizes in ((2,), (3,), (2, 3)):
                    right += self.check_reach(accepts, begin, goal, sizes, seed, pool)
                    right += self.check_direct(accepts, begin, goal, sizes, seed, pool)
                    right += self.check_effort(accepts, begin, goal, sizes, seed, pool)
                    right += self.check_group(accepts, begin, goal, group, sizes, seed, pool)
                    right += self.check_end(accepts, likes, begin, goal, sizes, seed, pool)
                right += self.check_width(accepts, begin, goal, seed, pool)
        self.assertGreater(right, 1000)

    def some_papers(self, paper, begin, goal, seed, pool):
        papers = [paper, paper, ("row", ()), ("closed", (begin,)), ("closed", tuple(sorted({begin, goal})))]
        return [paper] + wrong_papers(seed, papers, pool, 4)

    def check_reach(self, accepts, begin, goal, sizes, seed, pool):
        truth = goal in distances(accepts, begin, sizes)
        found = []
        for thing in self.some_papers(reach_paper(accepts, begin, goal, sizes=sizes), begin, goal, seed, pool):
            found += self.accepted(lets_reach, accepts, begin, goal, thing, sizes=sizes)
        self.assertEqual(set(found), {truth})
        return len(found)

    def check_direct(self, accepts, begin, goal, sizes, seed, pool):
        efforts = least_effort(accepts, begin, goal, sizes=sizes)
        found = []
        for thing in self.some_papers(direct_paper(accepts, begin, goal, sizes=sizes), begin, goal, seed, pool):
            found += self.accepted(lets_direct, accepts, begin, goal, thing, sizes=sizes)
        self.assertEqual(set(found), {efforts == needed(begin, goal)})
        return len(found)

    def check_effort(self, accepts, begin, goal, sizes, seed, pool):
        found = []
        for thing in self.some_papers(effort_paper(accepts, begin, goal, sizes=sizes), begin, goal, seed, pool):
            found += self.accepted(lets_effort, accepts, begin, goal, thing, sizes=sizes)
        self.assertEqual(set(found), {least_effort(accepts, begin, goal, sizes=sizes)})
        return len(found)

    def check_group(self, accepts, begin, goal, group, sizes, seed, pool):
        truth = goal in reached(begin, lambda holding: group_steps(accepts, holding, group, sizes))
        found = []
        for thing in self.some_papers(group_paper(accepts, begin, goal, group, sizes=sizes), begin, goal, seed, pool):
            found += self.accepted(lets_group, accepts, begin, goal, group, thing, sizes=sizes)
        self.assertEqual(set(found), {truth})
        return len(found)

    def check_end(self, accepts, likes, begin, goal, sizes, seed, pool):
        known = reached(begin, lambda holding: fair_steps(accepts, likes, holding, sizes))
        truth = goal in known and not fair_steps(accepts, likes, goal, sizes)
        found = []
        for thing in self.some_papers(end_paper(accepts, likes, begin, goal, sizes=sizes), begin, goal, seed, pool):
            found += self.accepted(lets_end, accepts, likes, begin, goal, thing, sizes=sizes)
        self.assertEqual(set(found), {truth})
        return len(found)

    def check_width(self, accepts, begin, goal, seed, pool):
        paper = width_paper(accepts, begin, goal)
        found = []
        for thing in [paper] + wrong_papers(seed, [paper, (1, (), ()), (2, (), (begin,))], pool, 10):
            found += self.accepted(lets_width, accepts, begin, goal, thing)
        self.assertEqual(set(found), {least_width(accepts, begin, goal)})
        return len(found)

    def test_trees(self):
        right = 0
        for seed, accepts in enumerate((THREE, MORE, full(3), full(4), some_accepts(5, 4, 7))):
            for holding in all_holdings(accepts)[:3]:
                for ring, after in all_steps(accepts, holding, (2, 3, 4)):
                    for sizes in ((2,), (3,), (2, 3)):
                        tree = split_paper(accepts, holding, ring, sizes=sizes)
                        things = wrong_papers(seed, [tree or ("ring",)], list(accepts) + [("ring",)], 6)
                        for thing in things if tree is None else [tree] + things:
                            for leaves in self.accepted(lets_split, accepts, holding, ring, thing, sizes=sizes):
                                self.assertIn(thing, all_trees(accepts, holding, ring, sizes))
                                self.assertGreater(leaves, 0)
                                right += 1
        self.assertGreater(right, 50)

    def test_a_market_that_is_replayed_is_equal(self):
        for seed in range(6):
            chance = random.Random(seed)
            market = Market(MORE, FIRST, sizes=(2, 3), goal=LAST)
            model = Model(MORE, FIRST, (2, 3), LAST)
            for _ in range(25):
                event = chosen_event(chance, model)
                if model.reason(event) is None:
                    model.apply(event)
                    market.go(event)
                again = replayed(market.log())
                self.assertTrue(is_log(market.log()))
                self.assertTrue(again == market and (again.holding, again.goal) == (market.holding, market.goal))
                self.assertEqual(again.width_to_goal, market.width_to_goal)


class ConsequenceTests(unittest.TestCase):
    def test_29(self):
        for accepts in SOME:
            for begin, goal in pairs_of(accepts, 3):
                rings = difference(begin, goal)
                self.assertEqual(difference(goal, begin), tuple(ring[:1] + ring[:0:-1] for ring in rings))
                self.assertEqual(after_row(accepts, begin, *rings), goal)
                self.assertLessEqual(width(accepts, begin, goal), max(map(len, rings), default=1))
                for sizes in ((2,), (2, 3)):
                    far = distance(accepts, begin, goal, sizes=sizes)
                    self.assertEqual(far, distance(accepts, goal, begin, sizes=sizes))
                    for third in all_holdings(accepts)[:3]:
                        one, other = (distance(accepts, *ends, sizes=sizes) for ends in ((begin, third), (third, goal)))
                        if one is not None and other is not None:
                            self.check_not_more(far, one + other)

    check_not_more = GuaranteeTests.check_not_more

    def test_29_classes_stay_within_classes(self):
        for seed, accepts in enumerate(SOME):
            larger = [classes(wider(accepts, seed)), classes(accepts, sizes=(2, 3)), classes(accepts, sizes=(2, 5))]
            for level in larger:
                for some in classes(accepts):
                    self.assertEqual(sum(set(some) <= set(other) for other in level), 1)
            tree = class_tree(accepts)
            for finer, coarser in zip(tree, tree[1:]):
                self.assertTrue(all(any(set(some) <= set(other) for other in coarser) for some in finer))
            for some in tree[1]:
                self.assertEqual(some, reachable(accepts, some[-1]))

    def test_40(self):
        for accepts in SOME:
            for most in (widest_bare(accepts), widest_bare(accepts) + 1):
                for begin, goal in pairs_of(accepts, 3):
                    self.assertIsNotNone(direct_row(accepts, begin, goal, sizes=sizes_to(most)))
                    self.assertEqual(direct_paper(accepts, begin, goal, sizes=sizes_to(most))[0], "row")
                    self.assertEqual(least_detour(accepts, begin, goal, sizes=sizes_to(most)), 0)

    def test_52_groups(self):
        for seed, accepts in enumerate(SOME[:10]):
            more = wider(accepts, seed)
            for begin, goal in pairs_of(accepts, 2):
                groups = least_groups(accepts, begin, goal)
                for group in groups:
                    self.assertLessEqual(people_in(difference(begin, goal)), set(group))
                    for others in (least_groups(accepts, begin, goal, sizes=(2, 3)), least_groups(more, begin, goal)):
                        self.assertTrue(any(set(other) <= set(group) for other in others))
                for person, item in accepts[:3]:
                    for group in groups_for(accepts, begin, person, item):
                        others = groups_for(more, begin, person, item, sizes=(2, 4))
                        self.assertTrue(any(set(other) <= set(group) for other in others))

    def test_52_ends(self):
        for seed, accepts in enumerate(SOME):
            likes = likes_of(accepts, seed + 3)
            for begin in all_holdings(accepts)[:4]:
                for sizes in SIZES:
                    ends = ends_of(accepts, likes, begin, sizes=sizes)
                    self.assertGreater(len(ends), 0)
                    for end in ends:
                        fewer = [some for some in SIZES if set(some) <= set(sizes)]
                        self.assertTrue(all(is_settled(accepts, likes, end, sizes=some) for some in fewer))
                    rank, end = best_end_for(accepts, likes, begin, begin[0][0], sizes=sizes)
                    self.assertIn(end, ends)
                    self.assertEqual(rank, rank_of(likes, begin[0][0], dict(end)[begin[0][0]]))
                    for goal in all_holdings(accepts)[:6]:
                        paper = end_paper(accepts, likes, begin, goal, sizes=sizes)
                        self.assertIs(paper[0] == "row", goal in ends)
                        self.assertIs(lets_end(accepts, likes, begin, goal, paper, sizes=sizes), goal in ends)

    def test_52_each_fair_ring_lowers_the_sum_of_the_ranks(self):
        for seed, accepts in enumerate(SOME):
            likes = likes_of(accepts, seed)
            for holding in all_holdings(accepts)[:8]:
                ranks = sum(rank_of(likes, *pair) for pair in holding)
                for ring in fair_trades(accepts, likes, holding, sizes=(2, 3, 4, 5)):
                    self.assertLess(sum(rank_of(likes, *pair) for pair in after_row(accepts, holding, ring)), ranks)

    def test_offers_make_what_they_promise(self):
        for seed, accepts in enumerate(SOME[:10]):
            every = tuple(pair for pair in wider(accepts, seed) if pair not in accepts)[:5]
            for begin, goal in pairs_of(accepts, 2):
                for some in offers_reaching(accepts, begin, goal, every):
                    more = tuple(sorted(accepts + some))
                    self.assertEqual(width_paper(more, begin, goal)[0], min(2, width(accepts, begin, goal)))
