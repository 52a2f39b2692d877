"""[11]: lets_accepts, by [3] and [9]."""

import unittest

from handround.acceptchecker import lets_accepts
from handround.errors import InvalidPaper
from tests.samples import (
    ANY, BOTH, DEEP, FIRST, LAST, MORE, NONE, SAME, STRANGE, THREE, all_accepts, circle, full,
)


class AcceptTests(unittest.TestCase):
    def refused(self, thing):
        with self.assertRaises(InvalidPaper) as caught:
            lets_accepts(thing)
        return (caught.exception.word, caught.exception.at)

    def test_number_of_people(self):
        for accepts, many in ((THREE, 3), (MORE, 3), (BOTH, 2), (SAME, 2), (NONE, 3), (full(6), 6), (circle(8), 8)):
            self.assertEqual(lets_accepts(accepts), many)
            self.assertEqual(lets_accepts(thing=accepts), many)
        for accepts in all_accepts():
            self.assertEqual(lets_accepts(accepts), len({person for person, item in accepts}))

    def test_shape(self):
        for thing in STRANGE:
            self.assertEqual(self.refused(thing), ("shape", -1), thing)
        wrong = (
            list(THREE), THREE + (None,), THREE + (("ann",),), THREE + (["zoe", "zip"],), (("ann", "bed", "cot"),),
            ("ann", "bed"), THREE + (("zoe", "Zip"),), (("ann", 1), ("bob", 2)), None, 2, "ann", DEEP, (THREE,),
        )
        for thing in wrong:
            self.assertEqual(self.refused(thing), ("shape", -1), thing)

    def test_shape_comes_first(self):
        self.assertEqual(self.refused((("bob", "bed"), ("ann", "bed"), None)), ("shape", -1))

    def test_empty(self):
        self.assertEqual(self.refused(()), ("empty", -1))

    def test_rise(self):
        self.assertEqual(self.refused((("ann", "bed"), ("ann", "bed"))), ("rise", 1))
        self.assertEqual(self.refused((("ann", "cot"), ("ann", "bed"), ("ann", "bed"))), ("rise", 1))
        self.assertEqual(self.refused(THREE[:4] + THREE[3:]), ("rise", 4))
        self.assertEqual(self.refused(THREE + THREE[:1]), ("rise", 6))
        self.assertEqual(self.refused((("ann", "bed"), ("bob", "cot"), ("bob", "bed"))), ("rise", 2))

    def test_rise_comes_before_even_and_few(self):
        self.assertEqual(self.refused((("ann", "cot"), ("ann", "bed"))), ("rise", 1))

    def test_even(self):
        self.assertEqual(self.refused((("ann", "bed"), ("bob", "bed"))), ("even", -1))
        self.assertEqual(self.refused((("ann", "bed"), ("ann", "cot"))), ("even", -1))
        self.assertEqual(self.refused(THREE[:-1] + (("cy", "elm"),)), ("even", -1))

    def test_few(self):
        self.assertEqual(self.refused((("ann", "bed"),)), ("few", -1))

    def test_any_value(self):
        for thing in ANY:
            if thing not in (THREE, MORE, FIRST, LAST, BOTH):
                word, at = self.refused(thing)
                self.assertIn(word, ("shape", "empty", "rise", "even", "few"))

    def test_the_argument_stays(self):
        thing = [["ann", "bed"], ["bob", "cot"]]
        self.refused(thing)
        self.assertEqual(thing, [["ann", "bed"], ["bob", "cot"]])
