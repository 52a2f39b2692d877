"""[64], [65]: events and logs as lines."""

import unittest

from handround.eventtexts import event_line, log_lines
from tests.samples import FIRST, HUGE, LAST, MORE, SAME

LINES = (
    (("trade", ("ann", "cy", "bob")), "trade ann>cy>bob"),
    (("trade", ("a", "trade")), "trade a>trade"),
    (("accept", ("ann", "bed")), "accept ann:bed"),
    (("refuse", ("a", "abcdefgh")), "refuse a:abcdefgh"),
    (("goal", None), "goal -"),
    (("goal", FIRST), "goal ann:bed,bob:cot,cy:den"),
    (("goal", FIRST[::-1] + FIRST[:1]), "goal cy:den,bob:cot,ann:bed,ann:bed"),
    (("goal", (("a", "a"),)), "goal a:a"),
    (("sizes", ()), "sizes -"),
    (("sizes", (2,)), "sizes 2"),
    (("sizes", (2, 3, 10, HUGE)), "sizes 2,3,10,1" + 59 * "0"),
    (("enter", "zoe", "zip"), "enter zoe zip"),
    (("enter", "a", "a"), "enter a a"),
    (("leave", "ann"), "leave ann"),
    (("leave", "market"), "leave market"),
)


class LineTests(unittest.TestCase):
    def test_event_lines(self):
        for event, line in LINES:
            self.assertEqual(event_line(event), line)
            self.assertEqual(event_line(event=event), line)

    def test_log_lines(self):
        begin = ("market", MORE, FIRST, (2, 3), LAST)
        first = (
            "market 2,3 ann:cot,bob:den,cy:bed ann:bed,bob:cot,cy:den "
            "ann:bed,ann:cot,bob:cot,bob:den,cy:bed,cy:cot,cy:den"
        )
        self.assertEqual(log_lines((begin,)), [first])
        events = tuple(event for event, line in LINES)
        self.assertEqual(log_lines((begin,) + events), [first] + [line for event, line in LINES])
        self.assertEqual(log_lines(log=(begin,)), [first])

    def test_neither_sizes_nor_goal(self):
        begin = ("market", SAME, (("a", "a"), ("abcdefgh", "abcdefgh")), (), None)
        line = "market - - a:a,abcdefgh:abcdefgh a:a,a:abcdefgh,abcdefgh:a,abcdefgh:abcdefgh"
        self.assertEqual(log_lines((begin,)), [line])

    def test_the_list_is_new(self):
        log = (("market", MORE, FIRST, (2,), None), ("leave", "ann"))
        found = log_lines(log)
        self.assertIs(type(found), list)
        found.clear()
        self.assertEqual(len(log_lines(log)), 2)
