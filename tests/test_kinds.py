"""[2], [3], [4], [10]: kinds of values."""

import string
import unittest

from handround import kinds
from tests.samples import ANY, DEEP, HUGE




CASES = {
    "is_number": (
        [0, 1, 2, 60, HUGE, 10 ** 60 - 1],
        [-1, -HUGE, True, False, None, "1", "", (), [], (1,), [1], DEEP],
    ),
    "is_name": (
        ["a", "z", "ann", "abcdefgh", "market", "trade", "zzzzzzzz"],
        ["", "abcdefghi", "Ann", "aNn", "an-n", "a b", "a1", "1", "ann\n", "\nann", " ann", "-", "_", "ann'",
         "{", "`", "\xe4", "\u0430", "\xdf", 1, True, None, ("a",), ["a"], ()],
    ),
    "is_pair": (
        [("a", "a"), ("ann", "bed"), ("bed", "ann"), ("abcdefgh", "z")],
        [("ann",), (), ("ann", "bed", "cot"), ["ann", "bed"], ("ann", ""), ("ann", None), ("ann", True),
         (1, "bed"), "ab", "ann", None, 2, (("ann", "bed"),), (["ann"], "bed"), ("ann", ("bed",))],
    ),
    "is_people": (
        [(), ("ann",), ("a", "b"), ("a", "aa", "b"), tuple(string.ascii_lowercase)],
        [("b", "a"), ("a", "a"), ("a", "c", "b"), ("a", "b", "b"), ["a"], [], "abc", "", None, 0, ("a", 1),
         ("a", None), (True,), (("a",),), ("A", "b"), (None, None)],
    ),
    "is_ring": (
        [("a", "b"), ("ann", "cy", "bob"), ("ann", "bob", "cy"), ("a", "aa"), tuple(string.ascii_lowercase)],
        [(), ("a",), ("b", "a"), ("b", "a", "c"), ("a", "a"), ("a", "b", "b"), ("a", "b", "a"), ["a", "b"],
         ("a", "B"), ("a", 1), ("a", None), "ab", None, 2, True, ("a", ("b",)), (("a", "b"),), (1, 2)],
    ),
    "is_row": (
        [(), (("a", "b"),), (("a", "b"), ("a", "b")), (("a", "c", "b"), ("b", "c"))],
        [[], [("a", "b")], (["a", "b"],), ("a", "b"), ((),), (("a",),), (("b", "a"),), (("a", "b"), ("a", "a")),
         (("a", "b"), None), None, True, "", 0, (("a", "b"), ("b", "a", "c"))],
    ),
    "is_sizes": (
        [(), (2,), (3,), (2, 3), (2, 8), (2, 3, HUGE), (HUGE,)],
        [[], [2], (1,), (0, 2), (1, 2), (2, 2), (3, 2), (2, 4, 3), (True,), (2, True), (True, 2), (-2,), ("2",),
         (2, None), None, 2, "", "2", ((2,),), ([2],), (2, (3,))],
    ),
}


class KindTests(unittest.TestCase):
    def test_what_is_of_the_kind(self):
        for name, (right, wrong) in CASES.items():
            for thing in right:
                self.assertIs(getattr(kinds, name)(thing), True, (name, thing))

    def test_what_is_not(self):
        for name, (right, wrong) in CASES.items():
            for thing in wrong:
                self.assertIs(getattr(kinds, name)(thing), False, (name, thing))

    def test_any_value_gives_true_or_false(self):
        for name in CASES:
            for thing in ANY:
                self.assertIs(type(getattr(kinds, name)(thing)), bool)
                self.assertIs(getattr(kinds, name)(thing=thing), getattr(kinds, name)(thing))

    def test_limits_are_ignored(self):
        names = [one + other for one in string.ascii_lowercase for other in string.ascii_lowercase]
        many = tuple(names[:500])
        self.assertIs(kinds.is_people(many), True)
        self.assertIs(kinds.is_ring(many), True)
        self.assertIs(kinds.is_ring(many[:1] + many[:0:-1]), True)
        self.assertIs(kinds.is_row((many[:2],) * 500), True)
        self.assertIs(kinds.is_sizes(tuple(range(2, 500))), True)

    def test_arguments_stay(self):
        thing = [["ann", "bed"], 2]
        for name in CASES:
            getattr(kinds, name)(thing)
        self.assertEqual(thing, [["ann", "bed"], 2])

    def test_the_letters(self):
        for code in range(32, 127):
            letter = chr(code)
            self.assertIs(kinds.is_name(letter), letter in string.ascii_lowercase)
            self.assertIs(kinds.is_name("a" + letter), letter in string.ascii_lowercase)
