"""[2], [3], [12], [13]: people, items and holdings."""

import unittest
from itertools import product

from handround.errors import UnknownPerson
from handround.holdings import (
    accepted_by, holder_of, holdings_of, is_holding, item_of, items_of, people_of,
)
from tests.samples import (
    ANY, BOTH, FIRST, ITEMS, LAST, MORE, NONE, PEOPLE, SAME, THREE, all_accepts, all_holdings, circle, full, plain,
    turned,
)


class NameTests(unittest.TestCase):
    def test_people_and_items(self):
        self.assertEqual(people_of(THREE), ("ann", "bob", "cy"))
        self.assertEqual(items_of(THREE), ("bed", "cot", "den"))
        self.assertEqual(people_of(accepts=SAME), ("a", "abcdefgh"))
        self.assertEqual(items_of(accepts=SAME), ("a", "abcdefgh"))

    def test_items_ascend_when_the_people_take_them_otherwise(self):
        accepts = (("ann", "zip"), ("bob", "bed"), ("cy", "cot"))
        self.assertEqual(people_of(accepts), ("ann", "bob", "cy"))
        self.assertEqual(items_of(accepts), ("bed", "cot", "zip"))

    def test_against_the_pairs(self):
        for accepts in all_accepts():
            self.assertEqual(people_of(accepts), tuple(sorted({person for person, item in accepts})))
            self.assertEqual(items_of(accepts), tuple(sorted({item for person, item in accepts})))

    def test_eight_people(self):
        self.assertEqual(people_of(full(8)), PEOPLE)
        self.assertEqual(items_of(circle(8)), ITEMS)

    def test_accepted_by(self):
        self.assertEqual(accepted_by(MORE, "cy"), ("bed", "cot", "den"))
        self.assertEqual(accepted_by(MORE, "ann"), ("bed", "cot"))
        self.assertEqual(accepted_by(accepts=SAME, person="a"), ("a", "abcdefgh"))
        for accepts in all_accepts():
            for person in people_of(accepts):
                expected = tuple(sorted(item for other, item in accepts if other == person))
                self.assertEqual(accepted_by(accepts, person), expected)

    def test_unknown_person(self):
        for name in ("zoe", "bed", "a", "an", "annn"):
            with self.assertRaises(UnknownPerson) as caught:
                accepted_by(THREE, name)
            self.assertIs(caught.exception.person, name)

    def test_tuples(self):
        for found in (people_of(THREE), items_of(THREE), accepted_by(THREE, "ann")):
            self.assertIs(type(found), tuple)


class HoldingTests(unittest.TestCase):
    def test_examples(self):
        self.assertEqual(len(list(holdings_of(MORE))), 3)
        self.assertEqual(list(holdings_of(THREE)), [FIRST, LAST])

    def test_all_candidates(self):
        for accepts in all_accepts() + [circle(6), circle(8), full(6)]:
            self.assertEqual(list(holdings_of(accepts)), all_holdings(accepts))

    def test_no_holding(self):
        self.assertEqual(list(holdings_of(NONE)), [])

    def test_one_by_one(self):
        found = holdings_of(accepts=full(8))
        self.assertEqual(next(found), plain(8))
        self.assertIs(iter(found), found)

    def test_two_generators_side_by_side(self):
        one, other = holdings_of(MORE), holdings_of(MORE)
        self.assertTrue(all(this == that for this, that in zip(one, other)))
        self.assertEqual(list(holdings_of(MORE)), list(holdings_of(MORE)))

    def test_kinds(self):
        for holding in holdings_of(MORE):
            self.assertIs(type(holding), tuple)
            self.assertTrue(all(type(pair) is tuple for pair in holding))

    def test_is_holding(self):
        for accepts in all_accepts():
            for holding in all_holdings(accepts):
                self.assertIs(is_holding(accepts, holding), True)
                self.assertIs(is_holding(accepts=accepts, thing=holding), True)

    def test_all_tuples_of_pairs(self):
        for accepts in (THREE, BOTH, NONE, SAME):
            known = all_holdings(accepts)
            for many in range(4):
                for pairs in product(accepts, repeat=many):
                    self.assertIs(is_holding(accepts, pairs), pairs in known)

    def test_is_no_holding(self):
        wrong = (
            FIRST[:2], FIRST[::-1], FIRST + (("dan", "elm"),), FIRST + FIRST[2:], list(FIRST), (), None,
            (("ann", "bed"), ("bob", "cot"), ("cy", "bed")), (("ann", "bed"), ("bob", "cot"), ("cy", "cot")),
            (("ann", "den"), ("bob", "cot"), ("cy", "bed")), (("ann", "bed"), ("bob", "den"), ("cy", "cot")),
            (["ann", "bed"], ["bob", "cot"], ["cy", "den"]), (("ann", "bed"), ("bob", "cot"), ("zoe", "den")),
            (("ann", "bed"), ("bob", "cot"), None), (("ann", "bed", "x"), ("bob", "cot"), ("cy", "den")),
        )
        for thing in wrong:
            self.assertIs(is_holding(THREE, thing), False, thing)

    def test_any_value(self):
        for thing in ANY:
            self.assertIs(is_holding(THREE, thing), thing in (FIRST, LAST), thing)

    def test_long_values(self):
        self.assertIs(is_holding(THREE, FIRST * 6000), False)

    def test_items_and_holders(self):
        for accepts in all_accepts():
            for holding in all_holdings(accepts):
                for person, item in holding:
                    self.assertEqual(item_of(holding, person), item)
                    self.assertEqual(holder_of(holding, item), person)
        self.assertEqual(item_of(holding=FIRST, person="cy"), "den")
        self.assertEqual(holder_of(holding=FIRST, item="den"), "cy")

    def test_nobody_and_nothing(self):
        self.assertIsNone(item_of(FIRST, "zoe"))
        self.assertIsNone(item_of(FIRST, "bed"))
        self.assertIsNone(holder_of(FIRST, "zip"))
        self.assertIsNone(holder_of(FIRST, "ann"))

    def test_same_names(self):
        holding = (("a", "abcdefgh"), ("abcdefgh", "a"))
        self.assertEqual(item_of(holding, "a"), "abcdefgh")
        self.assertEqual(holder_of(holding, "a"), "abcdefgh")
        self.assertEqual(list(holdings_of(SAME)), [(("a", "a"), ("abcdefgh", "abcdefgh")), holding])

    def test_turned(self):
        self.assertEqual(list(holdings_of(circle(7))), sorted([plain(7), turned(7)]))
