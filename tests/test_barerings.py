"""[6], [30], [31]: bare rings."""

import unittest
from itertools import permutations, product

from handround.barerings import bare_rings, is_bare, widest_bare
from tests.samples import (
    ANY, BOTH, MORE, NONE, SAME, THREE, all_accepts, all_bare, circle, full, plain, some_accepts, turned,
)

TURN = (("ann", "bed"), ("bob", "cot"), ("cy", "den"))
BACK = (("ann", "cot"), ("cy", "bed"), ("bob", "den"))


class BareTests(unittest.TestCase):
    def test_examples(self):
        self.assertEqual(bare_rings(THREE), (TURN,))
        self.assertEqual(bare_rings(MORE), ((("ann", "bed"), ("cy", "cot")), (("bob", "cot"), ("cy", "den"))))
        self.assertEqual([widest_bare(THREE), widest_bare(MORE)], [3, 2])

    def test_against_all_candidates(self):
        for accepts in all_accepts() + [some_accepts(seed, 4, 7) for seed in range(20, 26)] + [NONE]:
            self.assertEqual(bare_rings(accepts), all_bare(accepts))
            self.assertEqual(bare_rings(accepts=accepts), bare_rings(accepts))
            self.assertEqual(widest_bare(accepts=accepts), max(map(len, all_bare(accepts)), default=0))

    def test_is_bare_against_all_candidates(self):
        for accepts in [THREE, MORE, BOTH, SAME, NONE, full(3), some_accepts(1, 3, 3), circle(4)]:
            known = all_bare(accepts)
            for many in range(5 if len(accepts) < 9 else 4):
                for pairs in permutations(accepts, many):
                    self.assertIs(is_bare(accepts, pairs), pairs in known)
                    self.assertIs(is_bare(accepts=accepts, thing=pairs), pairs in known)

    def test_repeated_pairs(self):
        for many in (2, 3):
            for pairs in product(BOTH, repeat=many):
                self.assertIs(is_bare(BOTH, pairs), pairs in all_bare(BOTH))

    def test_the_greater_tuple_is_none(self):
        self.assertIs(is_bare(THREE, TURN), True)
        self.assertIs(is_bare(THREE, BACK), False)
        self.assertIs(is_bare(BOTH, (("ann", "bed"), ("bob", "cot"))), True)
        self.assertIs(is_bare(BOTH, (("ann", "cot"), ("bob", "bed"))), False)

    def test_rotations_and_parts(self):
        for begin in (1, 2):
            self.assertIs(is_bare(THREE, TURN[begin:] + TURN[:begin]), False)
        for many in range(3):
            self.assertIs(is_bare(THREE, TURN[:many]), False)
        self.assertIs(is_bare(THREE, TURN + TURN), False)
        self.assertIs(is_bare(THREE, (TURN[0], TURN[2], TURN[1])), False)

    def test_two_people_who_accept_both_items(self):
        self.assertEqual(bare_rings(BOTH), ((("ann", "bed"), ("bob", "cot")),))
        self.assertEqual(bare_rings(SAME), ((("a", "a"), ("abcdefgh", "abcdefgh")),))
        self.assertEqual(len(bare_rings(full(3))), 9)

    def test_somebody_accepts_more(self):
        self.assertIs(is_bare(MORE, TURN), False)
        self.assertIs(is_bare(full(3), TURN), False)

    def test_none(self):
        accepts = (("ann", "bed"), ("bob", "cot"))
        self.assertEqual(bare_rings(accepts), ())
        self.assertEqual(widest_bare(accepts), 0)
        self.assertEqual(bare_rings(NONE), ())

    def test_rings_outside_of_any_holding(self):
        # Nobody can hold den and elm both, but ann and bob have a bare ring of their own.
        accepts = BOTH + (("cy", "bed"), ("dan", "bed"), ("dan", "den"), ("dan", "elm"))
        accepts = tuple(sorted(accepts))
        self.assertEqual(bare_rings(accepts), all_bare(accepts))
        self.assertEqual(bare_rings(accepts), ((("ann", "bed"), ("bob", "cot")),))

    def test_items_twice_and_people_twice(self):
        # Everybody accepts their own two items of these and no other of them, but they occur twice.
        items = (("ann", "bed"), ("bob", "cot"), ("cy", "bed"), ("dan", "cot"))
        self.assertIs(is_bare(full(4), items), False)
        people = (("ann", "bed"), ("bob", "cot"), ("ann", "cot"), ("bob", "bed"))
        self.assertIs(is_bare(full(2), people), False)
        self.assertIs(is_bare(circle(3), plain(3) * 2), False)
        for pairs in permutations(full(4), 3):
            self.assertIs(is_bare(full(4), pairs), False)

    def test_large_rings(self):
        for many in (3, 4, 5, 6, 7, 8):
            self.assertEqual(bare_rings(circle(many)), (plain(many),))
            self.assertEqual(widest_bare(circle(many)), many)
            self.assertIs(is_bare(circle(many), plain(many)), True)
            greater = turned(many)[:1] + turned(many)[:0:-1]
            self.assertIs(is_bare(circle(many), greater), False)
        self.assertEqual(len(bare_rings(full(8))), 28 * 28)

    def test_the_first_person_need_not_have_the_least_item(self):
        accepts = (("ann", "cot"), ("ann", "den"), ("bob", "bed"), ("bob", "den"), ("cy", "bed"), ("cy", "cot"))
        self.assertEqual(bare_rings(accepts), ((("ann", "cot"), ("bob", "den"), ("cy", "bed")),))
        self.assertEqual(bare_rings(accepts), all_bare(accepts))

    def test_any_value(self):
        for thing in ANY:
            self.assertIs(is_bare(THREE, thing), thing == TURN, thing)
        self.assertIs(is_bare(THREE, list(TURN)), False)
        self.assertIs(is_bare(THREE, tuple(map(list, TURN))), False)
        self.assertIs(is_bare(THREE, TURN + (None,)), False)

    def test_long_values(self):
        self.assertIs(is_bare(THREE, TURN * 2000), False)

    def test_kinds_and_second_calls(self):
        found = bare_rings(MORE)
        self.assertIs(type(found), tuple)
        self.assertTrue(all(type(ring) is tuple and type(ring[0]) is tuple for ring in found))
        self.assertEqual(found, bare_rings(MORE))
