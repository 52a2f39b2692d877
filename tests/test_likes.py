"""[2], [7], [9], [46]: likes."""

import random
import unittest

from handround.errors import InvalidPaper, UnknownPair
from handround.likes import lets_likes, rank_of
from tests.calls import asked, raises, returns
from tests.papermodel import changed, is_names, likes_of, pool_of, told
from tests.samples import ANY, BOTH, MORE, SAME, STRANGE, THREE, all_accepts, circle, full, some_accepts

LIKES = (("ann", ("cot", "bed")), ("bob", ("den", "cot")), ("cy", ("bed", "den")))


def told_likes(accepts, thing):
    """What the checker is to say, by the words."""
    if type(thing) is not tuple:
        return ("shape", -1)
    for part in thing:
        if type(part) is not tuple or len(part) != 2 or not is_names(part[:1]) or not is_names(part[1]):
            return ("shape", -1)
    people = sorted({person for person, item in accepts})
    if [person for person, items in thing] != people:
        return ("people", -1)
    for at, (person, items) in enumerate(thing):
        wanted = {item for other, item in accepts if other == person}
        if set(items) != wanted or len(items) != len(wanted):
            return ("items", at)
    return ("true", len(people))


class LikesTests(unittest.TestCase):
    def check(self, accepts, thing, *expected):
        wanted = returns(expected[0]) if len(expected) == 1 else raises(InvalidPaper, *expected)
        self.assertEqual(asked(self, lets_likes, {"accepts": accepts, "thing": thing}), wanted, thing)
        model = expected if len(expected) == 2 else ("true", *expected)
        self.assertEqual(told_likes(accepts, thing), model)

    def test_likes(self):
        self.check(THREE, LIKES, 3)
        self.check(SAME, (("a", ("abcdefgh", "a")), ("abcdefgh", ("a", "abcdefgh"))), 2)
        for accepts in all_accepts() + [full(6), circle(6)]:
            for seed in range(3):
                self.check(accepts, likes_of(accepts, seed), len(dict(accepts)))

    def test_shape(self):
        for thing in ANY:
            if thing != ():
                self.check(THREE, thing, "shape", -1)
        for part in STRANGE + (0, 1):
            self.check(THREE, LIKES + (part,), "shape", -1)
            self.check(THREE, LIKES[:2] + ((part, ("bed", "den")),), "shape", -1)
            self.check(THREE, LIKES[:2] + (("cy", ("bed", part)),), "shape", -1)
        for items in ("bed", ["bed", "den"], None, 2, True, (("bed", "den"),)):
            self.check(THREE, LIKES[:2] + (("cy", items),), "shape", -1)
        for part in (("cy",), ("cy", ("bed",), ("den",)), ["cy", ("bed", "den")], ("cy", "bed", "den")):
            self.check(THREE, LIKES[:2] + (part,), "shape", -1)
        self.check(THREE, list(LIKES), "shape", -1)

    def test_people(self):
        for thing in ((), LIKES[:2], LIKES[1:], LIKES[::-1], LIKES + LIKES[2:], LIKES + (("zoe", ()),),
                      (LIKES[1], LIKES[0], LIKES[2]), LIKES[:2] + (("dan", ("bed", "den")),)):
            self.check(THREE, thing, "people", -1)

    def test_items(self):
        for at in range(3):
            person, items = LIKES[at]
            for wrong in ((), items[:1], items + items[:1], items + ("zip",), ("zip", items[0]), (items[0], items[0]),
                          tuple(sorted(set(dict(THREE).values()) - {"den"}))[:1], ("bed", "cot", "den")):
                self.check(THREE, LIKES[:at] + ((person, wrong),) + LIKES[at + 1:], "items", at)

    def test_the_order(self):
        self.check(THREE, (("bob", ()), ("ann", (None,))), "shape", -1)
        self.check(THREE, (("bob", ()), ("ann", ())), "people", -1)
        self.check(THREE, (LIKES[0], ("bob", ()), ("cy", ())), "items", 1)

    def test_likes_of_other_accepts(self):
        self.check(MORE, LIKES, "items", 2)
        self.check(full(3), LIKES, "items", 0)
        self.check(BOTH, LIKES, "people", -1)

    def test_changed_likes(self):
        chance = random.Random(1)
        words = set()
        for seed, accepts in enumerate(all_accepts() + [some_accepts(1, 5, 9)]):
            for _ in range(150):
                thing = likes_of(accepts, seed)
                for _ in range(chance.choice((1, 1, 2))):
                    thing = changed(chance, thing, pool_of(accepts)[-60:] + ["ann", "bed", ("bed",), ()])
                expected = told_likes(accepts, thing)
                self.assertEqual(told(lets_likes, accepts, thing), expected, thing)
                words.add(expected[0])
        self.assertEqual(words, {"true", "shape", "people", "items"})

    def test_the_argument_stays(self):
        thing = [["ann", ["bed"]]]
        self.check(THREE, thing, "shape", -1)
        self.assertEqual(thing, [["ann", ["bed"]]])


class RankTests(unittest.TestCase):
    def check(self, likes, pair, expected):
        found = asked(self, rank_of, {"likes": likes, "person": pair[0], "item": pair[1]})
        self.assertEqual(found, expected)

    def test_ranks(self):
        self.check(LIKES, ("ann", "cot"), returns(0))
        self.check(LIKES, ("ann", "bed"), returns(1))
        self.check(LIKES, ("bob", "cot"), returns(1))
        self.check(LIKES, ("cy", "bed"), returns(0))
        for accepts in all_accepts() + [full(6)]:
            likes = likes_of(accepts, 3)
            for person, items in likes:
                for rank, item in enumerate(items):
                    self.check(likes, (person, item), returns(rank))

    def test_unknown_pair(self):
        for pair in (("ann", "den"), ("ann", "zip"), ("zoe", "bed"), ("zoe", "zip"), ("bed", "ann"), ("cot", "cot")):
            self.check(LIKES, pair, raises(UnknownPair, pair))
