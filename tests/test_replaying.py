"""[8], [63], [66]: logs, replayed markets and markets read from texts."""

import random
import unittest

from handround.errors import InvalidEvent, InvalidText
from handround.eventtexts import log_lines
from handround.replaying import is_log, replayed
from handround.watching import Market
from tests.marketmodel import Model, chosen_event
from tests.samples import ANY, BOTH, FIRST, HUGE, LAST, MORE, NONE, SAME, THREE, all_holdings, some_accepts
from tests.test_eventkinds import RIGHT, WRONG
from tests.test_eventreadings import BEGIN, FIRST_LINES
from tests.test_eventreadings import WRONG as WRONG_LINES

FIRST_PART = ("market", MORE, FIRST, (2,), None)
SWAP = ("trade", ("bob", "cy"))


def walked(seed):
    """A market after chosen events, some of them not applied, some taken back."""
    chance = random.Random(seed)
    accepts = some_accepts(seed, 2 + seed % 4, 3)
    begin = all_holdings(accepts)[-1]
    market = Market(accepts, begin, sizes=(2, 3), goal=begin)
    model = Model(accepts, begin, (2, 3), begin)
    while len(market) < 12:
        event = chosen_event(chance, model)
        if model.reason(event) is None:
            model.apply(event)
            market.go(event)
            market.go(("sizes", ()))
            market.undo()
    return market


class LogTests(unittest.TestCase):
    def test_log(self):
        market = Market(MORE, FIRST, sizes=(2, 3), goal=LAST)
        first = ("market", MORE, FIRST, (2, 3), LAST)
        self.assertEqual(market.log(), (first,))
        market.go(SWAP)
        market.set_goal(None)
        market.enter("zoe", "zip")
        self.assertEqual(market.log(), (first, SWAP, ("goal", None), ("enter", "zoe", "zip")))
        market.undo()
        self.assertEqual(market.log(), (first, SWAP, ("goal", None)))

    def test_str(self):
        market = Market(MORE, FIRST)
        self.assertEqual(str(market), "-")
        market.do_all(SWAP, ("goal", LAST), ("sizes", ()), ("enter", "zoe", "zip"), ("leave", "ann"))
        self.assertEqual(str(market), "trade bob>cy / goal ann:cot,bob:den,cy:bed / sizes - / enter zoe zip / leave ann")
        market.do_all(("goal", None), ("refuse", ("bob", "cot")), ("accept", ("bob", "cot")))
        self.assertTrue(str(market).endswith(" / goal - / refuse bob:cot / accept bob:cot"))

    def test_is_log(self):
        begins = (
            FIRST_PART, ("market", MORE, FIRST, (), LAST), ("market", THREE, LAST, (2, HUGE), FIRST),
            ("market", SAME, (("a", "a"), ("abcdefgh", "abcdefgh")), (2,), None),
        )
        for begin in begins:
            self.assertIs(is_log((begin,)), True)
            self.assertIs(is_log(thing=(begin, *RIGHT)), True)
            self.assertIs(is_log((begin,) + (SWAP,) * 500), True)

    def test_no_log(self):
        wrong = (
            (), FIRST_PART, [FIRST_PART], (list(FIRST_PART),), (FIRST_PART + (None,),), (FIRST_PART[:4],), None,
            (("log",) + FIRST_PART[1:],), ((None,) + FIRST_PART[1:],), (SWAP,), (FIRST_PART, FIRST_PART),
            (SWAP, FIRST_PART), ((["market"],) + FIRST_PART[1:],),
            (("market", list(MORE), FIRST, (2,), None),), (("market", MORE[::-1], FIRST, (2,), None),),
            (("market", (), (), (2,), None),), (("market", MORE[:2], FIRST, (2,), None),),
            (("market", (("ann", "bed"),), (("ann", "bed"),), (2,), None),),
            (("market", THREE, (("ann", "bed"), ("bob", "den"), ("cy", "cot")), (2,), None),),
            (("market", NONE, NONE[:3], (2,), None),), (("market", MORE, list(FIRST), (2,), None),),
            (("market", MORE, FIRST[::-1], (2,), None),), (("market", MORE, None, (2,), None),),
            (("market", MORE, FIRST, [2], None),), (("market", MORE, FIRST, (True,), None),),
            (("market", MORE, FIRST, (1,), None),), (("market", MORE, FIRST, None, None),),
            (("market", MORE, FIRST, (2,), ()),), (("market", MORE, FIRST, (2,), LAST[:2]),),
            (("market", MORE, FIRST, (2,), False),), (("market", THREE, FIRST, (2,), MORE),),
        )
        for thing in wrong:
            self.assertIs(is_log(thing), False, thing)
        for event in WRONG + ANY[:20]:
            self.assertIs(is_log((FIRST_PART, SWAP, event)), False, event)
        for thing in ANY:
            self.assertIs(is_log(thing), False, thing)
            self.assertIs(is_log((thing,)), False, thing)

    def test_events_of_a_log_need_not_be_applied(self):
        self.assertIs(is_log((FIRST_PART, ("leave", "zoe"), ("goal", LAST[::-1]))), True)

    def test_replayed_markets_are_equal(self):
        for seed in range(12):
            market = walked(seed)
            again = replayed(market.log())
            self.assertTrue(again == market)
            self.assertEqual((again.holding, again.accepts), (market.holding, market.accepts))
            self.assertEqual((again.sizes, again.goal), (market.sizes, market.goal))
            self.assertEqual((again.counts(), len(again)), ((0, 0), 12))
            self.assertIs(is_log(market.log()), True)
            again.undo()
            self.assertFalse(again == market)
            self.assertEqual(len(market), 12)

    def test_replayed_by_name_and_without_events(self):
        market = replayed(log=(FIRST_PART,))
        self.assertIs(type(market), Market)
        self.assertTrue(market == Market(MORE, FIRST))

    def test_replayed_raises_the_first_error(self):
        wrong = ("trade", ("ann", "bob"))
        for events, reason in (((SWAP, wrong, ("leave", "zoe")), "accept"), ((("leave", "zoe"), wrong), "person")):
            with self.assertRaises(InvalidEvent) as caught:
                replayed((FIRST_PART, *events))
            self.assertIn(caught.exception.event, events)
            self.assertEqual(caught.exception.reason, reason)
        with self.assertRaises(InvalidEvent) as caught:
            replayed((FIRST_PART, SWAP, wrong))
        self.assertIs(caught.exception.event, wrong)

    def test_replayed_full(self):
        self.assertEqual(len(replayed((FIRST_PART,) + (SWAP,) * 60)), 60)
        with self.assertRaises(InvalidEvent) as caught:
            replayed((FIRST_PART,) + (SWAP,) * 60 + (("leave", "zoe"),))
        self.assertEqual((caught.exception.event, caught.exception.reason), (("leave", "zoe"), "full"))


class ReadTests(unittest.TestCase):
    def refused(self, text):
        with self.assertRaises(InvalidText) as caught:
            Market.read(text)
        return (caught.exception.line, caught.exception.field)

    def test_there_and_back(self):
        for seed in range(12):
            market = walked(seed)
            again = Market.read("\n".join(log_lines(market.log())))
            self.assertIs(type(again), Market)
            self.assertTrue(again == market)
            self.assertEqual((again.holding, again.counts()), (market.holding, (0, 0)))

    def test_a_first_line_alone(self):
        market = Market.read(text=BEGIN)
        self.assertTrue(market == Market(BOTH, (("ann", "bed"), ("bob", "cot"))))

    def test_a_derived_class(self):
        class Fair(Market):
            pass

        self.assertIs(type(Fair.read(BEGIN)), Fair)

    def test_wrong_lines(self):
        for line, field in FIRST_LINES:
            expected = (0, 0) if line.startswith("market\n") else (0, field)
            if not line.endswith("\n"):
                self.assertEqual(self.refused(line), expected, line)
        for line, field in WRONG_LINES:
            if "\n" not in line:
                self.assertEqual(self.refused(BEGIN + "\n" + line), (1, field), line)
                self.assertEqual(self.refused(BEGIN + "\nleave zoe\n" + line + "\n"), (2, field), line)

    def test_empty_lines(self):
        self.assertEqual(self.refused(""), (0, 0))
        self.assertEqual(self.refused("\n" + BEGIN), (0, 0))
        self.assertEqual(self.refused(BEGIN + "\n"), (1, 0))
        self.assertEqual(self.refused(BEGIN + "\n\nleave ann"), (1, 0))
        self.assertEqual(self.refused(BEGIN + "\nsizes 2\n"), (2, 0))

    def test_no_log(self):
        wrong = (
            "market 2 - ann:bed,bob:cot ann:bed", "market 2 - ann:bed,bob:cot bob:cot,ann:bed",
            "market 2 - bob:cot,ann:bed ann:bed,bob:cot", "market 2 - ann:bed ann:bed,bob:cot",
            "market 2 bob:cot,ann:bed ann:bed,bob:cot ann:bed,bob:cot", "market 2 - ann:bed ann:bed",
            "market 2 ann:cot,bob:bed ann:bed,bob:cot ann:bed,bob:cot", "market 2 - a:b,b:b a:b,b:b",
        )
        for line in wrong:
            self.assertEqual(self.refused(line), (0, 0), line)
            self.assertEqual(self.refused(line + "\nleave zoe"), (0, 0), line)
            self.assertEqual(self.refused(line + "\nleave zoe\nleave"), (2, 1), line)

    def test_events_that_are_not_applied(self):
        for lines, event, reason in (
            ("leave ann", ("leave", "ann"), "few"), ("sizes 3\ntrade ann>bob", ("trade", ("ann", "bob")), "size"),
            ("goal bob:cot,ann:bed\nleave zoe", ("goal", (("bob", "cot"), ("ann", "bed"))), "goal"),
        ):
            with self.assertRaises(InvalidEvent) as caught:
                Market.read(BEGIN + "\n" + lines)
            self.assertEqual((caught.exception.event, caught.exception.reason), (event, reason))

    def test_full(self):
        self.assertEqual(len(Market.read(BEGIN + 60 * "\ntrade ann>bob")), 60)
        with self.assertRaises(InvalidEvent) as caught:
            Market.read(BEGIN + 60 * "\ntrade ann>bob" + "\nleave zoe")
        self.assertEqual((caught.exception.event, caught.exception.reason), (("leave", "zoe"), "full"))
        self.assertEqual(self.refused(BEGIN + 61 * "\ntrade ann>bob" + "\nx"), (62, 0))
