"""[2], [54], [56]: events by kind."""

import unittest

from handround.eventkinds import is_event
from tests.samples import ANY, DEEP, FIRST, HUGE, STRANGE

RIGHT = (
    ("trade", ("ann", "bob")), ("trade", ("a", "c", "b")), ("trade", ("goal", "market", "trade")),
    ("accept", ("ann", "bed")), ("accept", ("a", "a")), ("refuse", ("abcdefgh", "z")),
    ("goal", None), ("goal", FIRST), ("goal", FIRST[::-1]), ("goal", (("a", "a"),)), ("goal", (("a", "a"),) * 2),
    ("sizes", ()), ("sizes", (2,)), ("sizes", (3, HUGE)), ("sizes", (2, 3, 4, 5, 6, 7, 8, 9)),
    ("enter", "zoe", "zip"), ("enter", "a", "a"), ("leave", "ann"), ("leave", "leave"),
)
WRONG = (
    (), ("trade",), ("goal",), ("sizes",), ("enter",), ("leave",), ("accept",), ("refuse",), "trade", None, 2,
    ("trade", ("bob", "ann")), ("trade", ("ann",)), ("trade", ()), ("trade", ["ann", "bob"]), ("trade", "ann>bob"),
    ("trade", ("ann", "ann")), ("trade", ("ann", "bob"), None), ("trade", "ann", "bob"), ("trade", ("ann", "Bob")),
    ("accept", "ann", "bed"), ("accept", ("ann",)), ("accept", ["ann", "bed"]), ("accept", None),
    ("accept", ("ann", "bed", "cot")), ("accept", (("ann", "bed"),)), ("accept", ("ann", True)),
    ("refuse", "ann", "bed"), ("refuse", ()), ("refuse", ("ann", "bed"), ("ann", "cot")),
    ("goal", ()), ("goal", []), ("goal", False), ("goal", 0), ("goal", list(FIRST)), ("goal", FIRST + (None,)),
    ("goal", ("ann", "bed")), ("goal", None, None), ("goal", (["ann", "bed"],)), ("goal", "-"),
    ("sizes", None), ("sizes", [2]), ("sizes", (1,)), ("sizes", (True,)), ("sizes", (3, 2)), ("sizes", 2),
    ("sizes", (2, 2)), ("sizes", (2,), (3,)), ("sizes", ("2",)), ("sizes", "-"), ("sizes", (-2,)),
    ("enter", "zoe"), ("enter", ("zoe", "zip")), ("enter", "zoe", None), ("enter", "Zoe", "zip"),
    ("enter", "zoe", "zip", "zap"), ("enter", 1, "zip"), ("enter", "zoe", ("zip",)), ("enter", None, None),
    ("leave", None), ("leave", ("ann",)), ("leave", "ann", "bed"), ("leave", ""), ("leave", 1), ("leave", True),
    ("undo",), ("undo", "ann"), ("market", "ann"), ("Trade", ("ann", "bob")), (None, None), (True, "ann"),
    (["trade"], ("ann", "bob")), (("trade",), ("ann", "bob")), ["trade", ("ann", "bob")], ["leave", "ann"],
    ("trade ", ("ann", "bob")), (("trade", ("ann", "bob")),), DEEP,
)


class EventKindTests(unittest.TestCase):
    def test_events(self):
        for thing in RIGHT:
            self.assertIs(is_event(thing), True, thing)
            self.assertIs(is_event(thing=thing), True, thing)

    def test_no_events(self):
        for thing in WRONG:
            self.assertIs(is_event(thing), False, thing)
            self.assertIs(is_event(list(thing) if isinstance(thing, tuple) else [thing]), False, thing)

    def test_any_value(self):
        known = (("trade", ("ann", "bob")), ("accept", ("ann", "bed")), ("goal", None), ("enter", "zoe", "zip"))
        for thing in ANY:
            self.assertIs(is_event(thing), thing in known, thing)

    def test_any_value_in_an_event(self):
        for thing in STRANGE:
            for word in ("trade", "accept", "refuse", "sizes", "leave"):
                if (word, thing) != ("sizes", ()):
                    self.assertIs(is_event((word, thing)), False, (word, thing))
            self.assertIs(is_event(("goal", thing)), thing is None)
            self.assertIs(is_event(("enter", "zoe", thing)), False)
            self.assertIs(is_event(("enter", thing, "zip")), False)
            self.assertIs(is_event((thing, "zip")), False)

    def test_the_argument_stays(self):
        thing = ["trade", ["ann", "bob"]]
        is_event(thing)
        self.assertEqual(thing, ["trade", ["ann", "bob"]])
