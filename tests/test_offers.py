"""[2], [8], [45]: offers."""

import random
import unittest

from handround.errors import InvalidPaper
from handround.offers import lets_offers, offers_reaching
from tests.calls import asked, raises, returns
from tests.papermodel import ALL_SIZES, cases, is_pairs, parts
from tests.samples import (
    ANY, BOTH, FIRST, HUGE, LAST, MORE, NONE, PEOPLE, SAME, STRANGE, THREE, all_holdings, circle, distances, full,
    plain, some_accepts, turned,
)

OFFERS = (("bob", "bed"), ("cy", "cot"))


def all_offers(accepts):
    """Every pair of a person and an item that is not accepted, ascending."""
    people = sorted({person for person, item in accepts})
    items = sorted({item for person, item in accepts})
    return tuple((person, item) for person in people for item in items if (person, item) not in accepts)


def told_offers(accepts, thing):
    """What lets_offers returns, or the word and the place of the error."""
    if not is_pairs(thing):
        return ("shape", -1)
    for at, pair in enumerate(thing):
        if at > 0 and not thing[at - 1] < pair:
            return ("rise", at)
        if pair not in all_offers(accepts):
            return ("offer", at)
    return len(thing)


def reaching(accepts, begin, goal, offers, most, sizes):
    """All minimal sets of offers, each set tried."""
    enough = []
    for some in parts(offers):
        many = distances(tuple(sorted(accepts + some)), begin, sizes).get(goal)
        if many is not None and (most is None or many <= most):
            enough.append(some)
    return tuple(sorted(one for one in enough if not any(set(other) < set(one) for other in enough)))


class CheckerTests(unittest.TestCase):
    def check(self, accepts, thing, expected):
        wanted = raises(InvalidPaper, *expected) if isinstance(expected, tuple) else returns(expected)
        self.assertEqual(asked(self, lets_offers, {"accepts": accepts, "thing": thing}), wanted, thing)
        self.assertEqual(told_offers(accepts, thing), expected, thing)

    def test_offers(self):
        self.check(THREE, (), 0)
        self.check(THREE, OFFERS, 2)
        self.check(THREE, OFFERS[1:], 1)
        self.check(MORE, (("ann", "den"), ("bob", "bed")), 2)
        for accepts in (THREE, MORE, NONE, circle(6), some_accepts(2, 5, 4)):
            for some in (all_offers(accepts), all_offers(accepts)[:8], all_offers(accepts)[::2]):
                self.check(accepts, some, len(some))

    def test_nothing_to_offer(self):
        for accepts in (BOTH, SAME, full(3), full(8)):
            self.assertEqual(all_offers(accepts), ())
            self.check(accepts, (), 0)
            for pair in accepts:
                self.check(accepts, (pair,), ("offer", 0))

    def test_any_value(self):
        for thing in ANY:
            expected = told_offers(THREE, thing)
            self.check(THREE, thing, expected)
            self.check(MORE, thing, told_offers(MORE, thing))
            if thing in STRANGE:
                self.assertEqual(expected, ("shape", -1))

    def test_shape(self):
        for thing in (
            list(OFFERS), (["bob", "bed"],), OFFERS + (None,), OFFERS + (("cy",),), OFFERS + (("cy", "cot", "den"),),
            ("bob", "bed"), (OFFERS,), None, True, 1, "", "bob:bed", (("bob", True),), (("Bob", "bed"),), (("b", ""),),
            (("bob", "bed"), "cy"), {}, ((),), (("cy", "cot"), ("bob", "bed"), ("ann", 1)),
        ):
            self.check(THREE, thing, ("shape", -1))
        for part in STRANGE + (0, 2):
            self.check(THREE, (("bob", "bed"), (part, "cot")), ("shape", -1))
            self.check(THREE, (("bob", part),), ("shape", -1))
            self.check(THREE, (("bob", "bed"), part), ("shape", -1))

    def test_rise(self):
        self.check(THREE, OFFERS[::-1], ("rise", 1))
        self.check(THREE, OFFERS[:1] * 2, ("rise", 1))
        self.check(THREE, OFFERS + OFFERS[1:], ("rise", 2))
        self.check(THREE, (("ann", "den"), ("cy", "cot"), ("bob", "bed")), ("rise", 2))

    def test_offer(self):
        for pair in (("ann", "bed"), ("zoe", "bed"), ("ann", "zip"), ("zoe", "zip"), ("bed", "ann"), ("cy", "den"),
                     ("ann", "ann"), ("bed", "bed")):
            self.check(THREE, (pair,), ("offer", 0))
            self.check(THREE, (("a", "a"), pair), ("offer", 0))
        self.check(THREE, (("ann", "den"), ("bob", "den")), ("offer", 1))
        self.check(THREE, (("bob", "bed"), ("zoe", "bed"), ("cy", "cot")), ("offer", 1))

    def test_each_pair_before_the_next_one_and_rise_before_offer(self):
        self.check(THREE, (("ann", "bed"), ("ann", "bed")), ("offer", 0))
        self.check(THREE, (("bob", "bed"), ("ann", "bed")), ("rise", 1))
        self.check(THREE, (("bob", "bed"), ("cy", "bed"), ("ann", "bed")), ("offer", 1))
        self.check(THREE, (("bob", "bed"), ("bob", "bed"), ("zoe", "bed")), ("rise", 1))

    def test_changed_offers(self):
        chance = random.Random(3)
        words = set()
        for _ in range(600):
            accepts = chance.choice((THREE, MORE, circle(4), some_accepts(1, 4, 3)))
            pairs = list(all_offers(accepts))
            for _ in range(chance.choice((0, 1, 1, 2))):
                at = chance.randrange(len(pairs) + 1)
                pair = (chance.choice(PEOPLE[:5]), chance.choice(("bed", "cot", "den", "zip")))
                pairs[at:at + chance.randrange(3)] = [pair] if chance.random() < 0.7 else []
            expected = told_offers(accepts, tuple(pairs))
            words.add(expected[0] if isinstance(expected, tuple) else "true")
            self.check(accepts, tuple(pairs), expected)
        self.assertEqual(words, {"true", "rise", "offer"})


class ReachTests(unittest.TestCase):
    def check(self, accepts, begin, goal, offers, sizes, most=None):
        given = {"accepts": accepts, "begin": begin, "goal": goal, "offers": offers}
        expected = reaching(accepts, begin, goal, offers, most, sizes)
        found = asked(self, offers_reaching, given, most=most, sizes=sizes)
        self.assertEqual(found, returns(expected), (given, most, sizes))
        return expected

    def test_example(self):
        self.assertEqual(offers_reaching(THREE, FIRST, LAST, OFFERS), ((("bob", "bed"),), (("cy", "cot"),)))
        self.check(THREE, FIRST, LAST, OFFERS, (2,))

    def test_no_offer_is_needed(self):
        self.assertEqual(self.check(MORE, FIRST, LAST, (("ann", "den"), ("bob", "bed")), (2,)), ((),))
        self.assertEqual(self.check(THREE, FIRST, LAST, OFFERS, (2, 3)), ((),))
        self.assertEqual(self.check(MORE, FIRST, LAST, (), (2,)), ((),))

    def test_equal_holdings(self):
        for sizes in ((), (2,), (3,), (HUGE,)):
            for most in (None, 0, 1, HUGE):
                self.assertEqual(self.check(THREE, FIRST, FIRST, OFFERS, sizes, most), ((),))
                self.assertEqual(self.check(THREE, LAST, LAST, (), sizes, most), ((),))

    def test_offers_that_do_not_suffice(self):
        self.assertEqual(self.check(THREE, FIRST, LAST, (), (2,)), ())
        self.assertEqual(self.check(THREE, FIRST, LAST, OFFERS, ()), ())
        self.assertEqual(self.check(THREE, FIRST, LAST, OFFERS, (4, 5)), ())
        self.assertEqual(self.check(THREE, FIRST, (("ann", "cot"), ("bob", "den"), ("cy", "bed")), OFFERS, (HUGE,)), ())
        offers = tuple(pair for pair in all_offers(circle(4)) if pair[0] != "dan")
        self.check(circle(4), plain(4), turned(4), offers[:4], (3,))

    def test_most(self):
        for most in (0, 1):
            self.assertEqual(self.check(THREE, FIRST, LAST, OFFERS, (2,), most), ())
        for most in (2, 3, HUGE, None):
            self.assertEqual(self.check(THREE, FIRST, LAST, OFFERS, (2,), most), ((("bob", "bed"),), (("cy", "cot"),)))
        self.assertEqual(self.check(THREE, FIRST, LAST, OFFERS, (2, 3), 1), ((),))
        self.assertEqual(self.check(THREE, FIRST, LAST, OFFERS, (2, 3), 0), ())
        self.assertEqual(self.check(THREE, FIRST, FIRST, OFFERS, (2, 3), 0), ((),))

    def test_more_offers_for_fewer_trades(self):
        # One offer is enough, but more of them make it shorter.
        found = 0
        for seed in range(30):
            accepts = some_accepts(seed, 4, 5)
            begin, *goals = all_holdings(accepts)
            offers = all_offers(accepts)[:6]
            for goal in goals[:3]:
                loose = self.check(accepts, begin, goal, offers, (2,))
                tight = self.check(accepts, begin, goal, offers, (2,), 3)
                found += loose != tight and tight != ()
        self.assertGreater(found, 0)

    def test_against_all_sets(self):
        chance = random.Random(8)
        several = 0
        for accepts, begin, goal in cases():
            every = all_offers(accepts)
            for sizes in ALL_SIZES[:6]:
                offers = tuple(sorted(chance.sample(every, min(len(every), chance.randrange(7)))))
                for most in (None, chance.randrange(5)):
                    self.check(accepts, begin, goal, offers, sizes, most)
        for seed in range(4):
            # A ring of all that offers cut short in many ways.
            offers = all_offers(circle(4))[seed:seed + 5]
            for sizes in ((2,), (3,), (2, 3)):
                several += len(self.check(circle(4), plain(4), turned(4), offers, sizes)) > 1
        self.assertGreater(several, 5)

    def test_eight_offers_of_six_people(self):
        chance = random.Random(9)
        for seed in range(6):
            accepts = some_accepts(seed, 6, 4)
            begin, goal = chance.choice(all_holdings(accepts)), chance.choice(all_holdings(accepts))
            offers = tuple(sorted(chance.sample(all_offers(accepts), 8)))
            given = {"accepts": accepts, "begin": begin, "goal": goal, "offers": offers}
            for sizes in ((2,), (2, 3)):
                found = offers_reaching(*given.values(), sizes=sizes)
                for some in found:
                    self.assertIn(goal, distances(tuple(sorted(accepts + some)), begin, sizes))
                    for pair in some:
                        less = tuple(sorted({*accepts, *some} - {pair}))
                        self.assertNotIn(goal, distances(less, begin, sizes))
                self.assertEqual(found, tuple(sorted(set(found))))
                every = tuple(sorted(accepts + offers))
                self.assertIs(found == (), goal not in distances(every, begin, sizes))
        self.check(circle(6), plain(6), turned(6), all_offers(circle(6))[:5], (2, 3, 4, 5))

    def test_more_acceptances_need_fewer_offers(self):
        for seed in range(10):
            accepts = some_accepts(seed, 4, 3)
            begin, *goals = all_holdings(accepts)
            offers = all_offers(accepts)[:6]
            for goal in goals[:2]:
                for pair in offers[:3]:
                    more = tuple(sorted((*accepts, pair)))
                    left = tuple(one for one in offers if one != pair)
                    found = self.check(more, begin, goal, left, (2,))
                    for some in self.check(accepts, begin, goal, offers, (2,)):
                        self.assertTrue(any(set(one) <= set(some) for one in found))

    def test_by_name_only(self):
        for given in ((1,), (None, (2,))):
            with self.assertRaises(TypeError):
                offers_reaching(THREE, FIRST, LAST, OFFERS, *given)
