"""[54] to [62]: the live market."""

import random
import unittest

from handround.errors import InvalidEvent, InvalidGoal, NothingToUndo, UnknownPerson
from handround.reaching import distance
from handround.watching import Market
from tests.marketmodel import Model, chosen_event
from tests.samples import (
    ANY, BOTH, FIRST, HUGE, LAST, MORE, SAME, THREE, all_accepts, all_holdings, circle, full, plain, some_accepts,
    turned,
)

SWAP = ("bob", "cy")
AFTER = (("ann", "bed"), ("bob", "den"), ("cy", "cot"))


class MarketTests(unittest.TestCase):
    """What the tests of a market share."""

    def refused(self, function, *given, **named):
        with self.assertRaises(InvalidEvent) as caught:
            function(*given, **named)
        return (caught.exception.event, caught.exception.reason)

    def set_goal(self, market, value):
        market.goal = value

    def full_market(self):
        market = Market(MORE, FIRST)
        market.do_all(*[("goal", None)] * 60)
        return market


class NewMarketTests(MarketTests):
    def test_a_new_market(self):
        market = Market(MORE, FIRST, sizes=(2, 3), goal=LAST)
        self.assertEqual((market.accepts, market.holding, market.sizes, market.goal), (MORE, FIRST, (2, 3), LAST))
        self.assertEqual((len(market), market.counts()), (0, (0, 0)))

    def test_sizes_and_goal_left_out(self):
        market = Market(accepts=MORE, holding=FIRST)
        self.assertEqual((market.sizes, market.goal), ((2,), None))
        self.assertEqual((market.distance_to_goal, market.width_to_goal), (None, None))
        with self.assertRaises(TypeError):
            Market(MORE, FIRST, (2,))

    def test_most(self):
        self.assertEqual(Market.MOST, 60)
        self.assertEqual(Market(MORE, FIRST).MOST, 60)

    def test_methods_stand_in_the_class_itself(self):
        names = (
            "accepts", "holding", "sizes", "goal", "distance_to_goal", "width_to_goal", "set_goal", "set_sizes",
            "trade", "accept", "refuse", "enter", "leave", "go", "tried", "undo", "do_all", "counts", "advice",
            "trades", "table", "log", "read", "MOST", "__call__", "__getitem__", "__contains__", "__len__",
            "__eq__", "__str__", "__init__",
        )
        for name in names:
            self.assertIn(name, vars(Market))

    def test_examples(self):
        market = Market(MORE, FIRST, goal=LAST)
        self.assertEqual([market.distance_to_goal, market(SWAP)], [2, AFTER])

    def test_only_the_goal_can_be_assigned(self):
        market = Market(MORE, FIRST)
        for name in ("accepts", "holding", "sizes", "distance_to_goal", "width_to_goal"):
            with self.assertRaises(AttributeError):
                setattr(market, name, None)


class GoalTests(MarketTests):
    def test_distance_and_width(self):
        market = Market(MORE, FIRST, goal=LAST)
        self.assertEqual((market.distance_to_goal, market.width_to_goal), (2, 2))
        market.set_sizes((2, 3))
        self.assertEqual((market.distance_to_goal, market.width_to_goal), (1, 2))
        market.refuse(("cy", "cot"))
        self.assertEqual((market.distance_to_goal, market.width_to_goal), (1, 3))
        market.set_sizes(())
        self.assertEqual((market.distance_to_goal, market.width_to_goal), (None, 3))
        market.goal = FIRST
        self.assertEqual((market.distance_to_goal, market.width_to_goal), (0, 1))

    def test_six_people(self):
        market = Market(circle(6), plain(6), sizes=(6, HUGE), goal=turned(6))
        self.assertEqual((market.distance_to_goal, market.width_to_goal), (1, 6))
        market = Market(full(6), plain(6), goal=turned(6))
        self.assertEqual((market.distance_to_goal, market.width_to_goal), (5, 2))

    def test_assigning_is_an_event(self):
        market = Market(MORE, FIRST)
        market.goal = LAST
        self.assertEqual(market.log()[1:], (("goal", LAST),))
        market.goal = None
        market.goal = None
        self.assertEqual(market.log()[1:], (("goal", LAST), ("goal", None), ("goal", None)))
        self.assertEqual(market.counts(), (3, 3))

    def test_set_goal(self):
        market = Market(MORE, FIRST)
        self.assertEqual(market.set_goal(LAST), LAST)
        self.assertIsNone(market.set_goal(value=None))
        self.assertEqual(market.log()[1:], (("goal", LAST), ("goal", None)))
        self.assertEqual(market.counts(), (2, 2))

    def test_invalid_goals(self):
        market = Market(THREE, FIRST, goal=LAST)
        for value in ANY:
            if value is None or value == FIRST or value == LAST:
                continue
            for change in (market.set_goal, lambda value: self.set_goal(market, value)):
                before = market.counts()[0]
                with self.assertRaises(InvalidGoal) as caught:
                    change(value)
                self.assertIs(caught.exception.value, value)
                self.assertEqual(market.counts(), (before + 1, before + 1))
        self.assertEqual((market.goal, len(market)), (LAST, 0))

    def test_invalid_goal_comes_before_full(self):
        market = self.full_market()
        for value in ((), LAST[:2], [LAST], 0, False):
            with self.assertRaises(InvalidGoal):
                market.set_goal(value)
            with self.assertRaises(InvalidGoal):
                market.goal = value
        self.assertEqual(self.refused(market.set_goal, LAST), (("goal", LAST), "full"))
        self.assertEqual(self.refused(self.set_goal, market, None), (("goal", None), "full"))

    def test_goals_as_events(self):
        market = Market(THREE, FIRST)
        self.assertEqual(market.go(("goal", LAST)), FIRST)
        for goal in (AFTER, LAST[:2], LAST[::-1], LAST * 2, (("zoe", "zip"),)):
            self.assertEqual(self.refused(market.go, ("goal", goal)), (("goal", goal), "goal"))
        for goal in ((), [], False, 0, list(LAST), ("ann", "cot")):
            self.assertEqual(self.refused(market.go, ("goal", goal)), (("goal", goal), "shape"))
        self.assertEqual((market.goal, len(market)), (LAST, 1))

    def test_the_goal_after_enter_and_leave(self):
        market = Market(MORE, FIRST, goal=LAST)
        market.enter("zoe", "zip")
        self.assertIsNone(market.goal)
        market.set_goal(market.holding)
        market.leave("zoe")
        self.assertIsNone(market.goal)


class EventTests(MarketTests):
    def test_each_event(self):
        market = Market(THREE, FIRST, goal=LAST)
        self.assertEqual(market.accept(("cy", "cot")), FIRST)
        self.assertEqual(market.accepts, MORE)
        self.assertEqual(market.trade(SWAP), AFTER)
        self.assertEqual(market.refuse(("cy", "den")), AFTER)
        self.assertEqual(market.accepts, MORE[:-1])
        self.assertEqual(market.set_sizes((2, 3)), (2, 3))
        self.assertEqual(market.goal, LAST)
        self.assertEqual(market.enter("b", "b"), (("ann", "bed"), ("b", "b"), ("bob", "den"), ("cy", "cot")))
        self.assertEqual(market.accepts, tuple(sorted(MORE[:-1] + (("b", "b"),))))
        self.assertEqual(market.leave("cy"), (("ann", "bed"), ("b", "b"), ("bob", "den")))
        self.assertEqual(market.accepts, (("ann", "bed"), ("b", "b"), ("bob", "den")))
        self.assertEqual(market.go(("sizes", ())), (("ann", "bed"), ("b", "b"), ("bob", "den")))
        self.assertEqual((market.sizes, len(market), market.counts()), ((), 7, (7, 7)))

    def test_by_name(self):
        market = Market(MORE, FIRST)
        self.assertEqual(market.trade(ring=SWAP), AFTER)
        market.refuse(pair=("ann", "cot"))
        market.accept(pair=("ann", "cot"))
        market.enter(person="zoe", item="zip")
        market.leave(person="zoe")
        market.set_sizes(value=(3,))
        market.go(event=("sizes", (2,)))
        self.assertEqual(market(ring=SWAP), FIRST)
        self.assertEqual(len(market), 8)

    def test_calling_is_trading(self):
        market = Market(MORE, FIRST)
        market(SWAP)
        self.assertEqual((market.log()[1:], market.counts()), ((("trade", SWAP),), (1, 1)))

    def test_people_and_items_of_the_same_name(self):
        market = Market(SAME, (("a", "a"), ("abcdefgh", "abcdefgh")))
        market.enter("z", "y")
        market.enter("y", "z")
        self.assertEqual(market.leave("abcdefgh"), (("a", "a"), ("y", "z"), ("z", "y")))
        self.assertEqual(market.accepts, (("a", "a"), ("y", "z"), ("z", "y")))

    def test_any_value_is_checked_by_kind_first(self):
        market = Market(MORE, FIRST, goal=LAST)
        for value in ANY:
            for word in ("trade", "accept", "refuse", "leave"):
                self.check_any(market, word, value)
            self.check_any(market, "enter", value, "zip")
            self.check_any(market, "enter", "zoe", value)
        for value in ANY:
            if not isinstance(value, tuple) or len(value) < 2 or not isinstance(value[0], str):
                event, reason = self.refused(market.go, value)
                self.assertIs(event, value)
                self.assertEqual(reason, "shape")

    def check_any(self, market, word, *values):
        right = {
            "trade": lambda ring: ring == SWAP,
            "accept": lambda pair: False,
            "refuse": lambda pair: False,
            "leave": lambda person: person == "ann",
            "enter": lambda person, item: (person, item) in (("a", "zip"), ("abcdefgh", "zip"), ("zoe", "ann"),
                                                             ("zoe", "a"), ("zoe", "abcdefgh")),
        }
        if right[word](*values):
            return
        before = market.log()
        event, reason = self.refused(getattr(market, word), *values)
        self.assertEqual(event, (word, *values))
        self.assertTrue(all(one is other for one, other in zip(event[1:], values)))
        self.assertEqual(self.refused(market.go, event)[1], reason)
        self.assertEqual(market.log(), before)

    def test_sizes_of_any_value(self):
        market = Market(MORE, FIRST)
        applied = 0
        for value in ANY:
            if value in ((), (2,), (2, 3), (2, HUGE)):
                self.assertEqual(market.set_sizes(value), value)
                applied += 1
                continue
            event, reason = self.refused(market.set_sizes, value)
            self.assertEqual((event[0], reason), ("sizes", "shape"))
            self.assertIs(event[1], value)
        self.assertEqual((len(market), market.counts()), (applied, (len(ANY), len(ANY))))


class ReasonTests(MarketTests):
    def reason(self, market, *event):
        before = (market.log(), market.holding, market.accepts)
        found, reason = self.refused(market.go, event)
        self.assertIs(found, event)
        self.assertEqual((market.log(), market.holding, market.accepts), before)
        return reason

    def test_trade(self):
        market = Market(MORE, FIRST, sizes=(2, 4))
        self.assertEqual(self.reason(market, "trade", ("cy", "bob")), "shape")
        self.assertEqual(self.reason(market, "trade", ("ann", "bob", "zoe")), "person")
        self.assertEqual(self.reason(market, "trade", ("ann", "zoe")), "person")
        self.assertEqual(self.reason(market, "trade", ("ann", "cy", "bob")), "size")
        self.assertEqual(self.reason(market, "trade", ("ann", "bob", "cy")), "size")
        self.assertEqual(self.reason(market, "trade", ("ann", "bob")), "accept")

    def test_accept(self):
        market = Market(MORE, FIRST)
        self.assertEqual(self.reason(market, "accept", ("ann", "")), "shape")
        self.assertEqual(self.reason(market, "accept", ("zoe", "zip")), "person")
        self.assertEqual(self.reason(market, "accept", ("bed", "bed")), "person")
        self.assertEqual(self.reason(market, "accept", ("ann", "zip")), "item")
        self.assertEqual(self.reason(market, "accept", ("ann", "bob")), "item")
        self.assertEqual(self.reason(market, "accept", ("ann", "bed")), "again")

    def test_refuse(self):
        market = Market(MORE, FIRST, goal=(("ann", "bed"), ("bob", "den"), ("cy", "cot")))
        self.assertEqual(self.reason(market, "refuse", ["ann", "bed"]), "shape")
        for pair in (("zoe", "bed"), ("ann", "zip"), ("ann", "den")):
            self.assertEqual(self.reason(market, "refuse", pair), "pair")
        self.assertEqual(self.reason(market, "refuse", ("ann", "bed")), "held")
        self.assertEqual(self.reason(market, "refuse", ("cy", "den")), "held")
        self.assertEqual(self.reason(market, "refuse", ("cy", "cot")), "goal")
        self.assertEqual(market.refuse(("ann", "cot")), FIRST)
        market.goal = None
        self.assertEqual(market.refuse(("cy", "cot")), FIRST)

    def test_enter(self):
        market = Market(MORE, FIRST)
        self.assertEqual(self.reason(market, "enter", "zoe"), "shape")
        self.assertEqual(self.reason(market, "enter", "ann", "bed"), "person")
        self.assertEqual(self.reason(market, "enter", "ann", "zip"), "person")
        self.assertEqual(self.reason(market, "enter", "zoe", "bed"), "item")
        self.assertEqual(market.enter("bed", "ann"), (FIRST[0], ("bed", "ann"), *FIRST[1:]))

    def test_leave(self):
        market = Market(MORE, FIRST)
        self.assertEqual(self.reason(market, "leave", ("ann",)), "shape")
        self.assertEqual(self.reason(market, "leave", "zoe"), "person")
        self.assertEqual(self.reason(market, "leave", "bed"), "person")
        self.assertEqual(market.leave("ann"), FIRST[1:])
        self.assertEqual(self.reason(market, "leave", "ann"), "person")
        self.assertEqual(self.reason(market, "leave", "bob"), "few")

    def test_full_comes_after_shape_and_before_the_others(self):
        market = self.full_market()
        for event in ((), ("trade", ("cy", "bob")), ("sizes", (1,)), ("goal", ()), ("leave", None)):
            self.assertEqual(self.reason(market, *event), "shape")
        others = (
            ("trade", ("ann", "zoe")), ("trade", SWAP), ("accept", ("zoe", "zip")), ("refuse", ("ann", "bed")),
            ("goal", LAST), ("goal", (("zoe", "zip"),)), ("sizes", (2,)), ("enter", "ann", "bed"), ("leave", "zoe"),
        )
        for event in others:
            self.assertEqual(self.reason(market, *event), "full")
        self.assertEqual(self.refused(market, SWAP), (("trade", SWAP), "full"))
        self.assertEqual(len(market), 60)

    def test_sixty_events_fit(self):
        market = Market(MORE, FIRST)
        for many in range(60):
            market(SWAP)
            self.assertEqual(len(market), many + 1)
        self.assertEqual(self.refused(market, SWAP)[1], "full")
        self.assertEqual(market.undo(), ("trade", SWAP))
        self.assertEqual(market(SWAP), FIRST)


class ReadingTests(MarketTests):
    def test_items(self):
        market = Market(MORE, FIRST)
        self.assertEqual([market[person] for person in ("ann", "bob", "cy")], ["bed", "cot", "den"])
        market(SWAP)
        self.assertEqual(market["cy"], "cot")

    def test_items_of_any_other_value(self):
        market = Market(MORE, FIRST)
        for value in ANY + ("zoe", "bed", market):
            if value == "ann" and isinstance(value, str):
                continue
            with self.assertRaises(UnknownPerson) as caught:
                market[value]
            self.assertIs(caught.exception.person, value)
        self.assertEqual(market.counts(), (0, 0))

    def test_a_market_is_not_iterated_over(self):
        with self.assertRaises(TypeError):
            list(Market(MORE, FIRST))

    def test_people(self):
        market = Market(MORE, FIRST)
        for value in ANY + ("zoe", "bed", market):
            self.assertIs(value in market, isinstance(value, str) and value == "ann")
        market.leave("ann")
        self.assertIs("ann" in market, False)
        self.assertIs("bob" in market, True)

    def test_equal_markets(self):
        market = Market(MORE, FIRST, goal=LAST)
        same = Market(MORE, FIRST, sizes=(2,), goal=LAST)
        self.assertTrue(market == same and not market != same)
        market(SWAP)
        self.assertFalse(market == same)
        same(SWAP)
        self.assertTrue(market == same)
        same.undo()
        same.go(("trade", SWAP))
        self.assertTrue(market == same)

    def test_markets_that_differ(self):
        market = Market(MORE, FIRST)
        for other in (Market(THREE, FIRST), Market(MORE, LAST), Market(MORE, FIRST, sizes=(2, 3)),
                      Market(MORE, FIRST, sizes=()), Market(MORE, FIRST, goal=FIRST)):
            self.assertTrue(market != other and not market == other)

    def test_equal_by_the_log_not_by_the_state(self):
        market = Market(MORE, FIRST)
        market(SWAP)
        market(SWAP)
        self.assertEqual(market.holding, FIRST)
        self.assertFalse(market == Market(MORE, FIRST))
        one, other = Market(MORE, FIRST), Market(MORE, FIRST)
        one.do_all(("sizes", (3,)), ("goal", LAST))
        other.do_all(("goal", LAST), ("sizes", (3,)))
        self.assertFalse(one == other)

    def test_equal_to_no_other_value(self):
        market = Market(MORE, FIRST)
        for value in ANY + (market.log(), str(market), [], object()):
            self.assertIs(market == value, False)
            self.assertIs(market != value, True)

    def test_advice(self):
        market = Market(MORE, FIRST)
        self.assertIsNone(market.advice())
        market.goal = LAST
        self.assertEqual(market.advice(), SWAP)
        market.trade(market.advice())
        self.assertEqual(market.advice(), ("ann", "cy"))
        market.trade(market.advice())
        self.assertEqual((market.holding, market.advice()), (LAST, None))
        self.assertIsNone(Market(THREE, FIRST, goal=LAST).advice())
        self.assertEqual(Market(THREE, FIRST, sizes=(3,), goal=LAST).advice(), ("ann", "cy", "bob"))

    def test_trades(self):
        market = Market(MORE, FIRST, sizes=(2, 3))
        self.assertEqual(list(market.trades()), [("ann", "cy", "bob"), SWAP])
        market.set_sizes(())
        self.assertEqual(list(market.trades()), [])
        market.set_sizes((2, HUGE))
        one, other = market.trades(), market.trades()
        self.assertIs(iter(one), one)
        self.assertEqual([next(one), next(other)], [SWAP, SWAP])
        self.assertEqual([list(one), list(other)], [[], []])

    def test_table(self):
        market = Market(MORE, FIRST, goal=(("ann", "bed"), ("bob", "den"), ("cy", "cot")))
        self.assertEqual(market.table(), [
            "ann      bed        2  ", "bob      cot        2 *", "cy       den        3 *",
        ])
        market.goal = None
        self.assertEqual(market.table()[2], "cy       den        3  ")
        long = Market(SAME, (("a", "a"), ("abcdefgh", "abcdefgh")))
        self.assertEqual(long.table(), ["a        a          2  ", "abcdefgh abcdefgh   2  "])

    def test_what_is_read_counts_nothing(self):
        market = Market(MORE, FIRST, goal=LAST)
        market.advice(), market.table(), list(market.trades()), market.log(), str(market), len(market)
        market.tried(("trade", SWAP)), market.distance_to_goal, market.width_to_goal, market["ann"], "ann" in market
        self.refused(market.tried, None)
        self.assertEqual((market.counts(), len(market)), ((0, 0), 0))

    def test_what_was_returned_may_be_changed(self):
        market = Market(MORE, FIRST, goal=LAST)
        market.table().clear()
        self.assertEqual(len(market.table()), 3)
        for value in (market.accepts, market.holding, market.log(), market.counts(), market.tried(), market.sizes):
            self.assertIs(type(value), tuple)
        self.assertIs(type(market.table()), list)

    def test_what_was_given_may_be_changed(self):
        market = Market(MORE, FIRST)
        events = [("trade", SWAP), ["trade", ["bob", "cy"]]]
        self.refused(market.do_all, *events, keep=True)
        events.clear()
        self.assertEqual(market.log()[1:], (("trade", SWAP),))
        wrong = [["ann", "bed"]]
        with self.assertRaises(InvalidGoal):
            market.set_goal(wrong)
        self.assertEqual(wrong, [["ann", "bed"]])


class ManyEventsTests(MarketTests):
    def test_tried(self):
        market = Market(MORE, FIRST)
        swaps = [("trade", SWAP), ("trade", ("ann", "cy"))]
        self.assertEqual(market.tried(*swaps), (AFTER, LAST))
        self.assertEqual(market.tried(), ())
        self.assertEqual(market.tried(("goal", LAST), ("sizes", ())), (FIRST, FIRST))
        self.assertEqual((market.holding, market.goal, len(market)), (FIRST, None, 0))

    def test_tried_raises_the_first_error(self):
        market = Market(MORE, FIRST)
        wrong = ("trade", ("ann", "bob"))
        found = self.refused(market.tried, ("trade", SWAP), wrong, None)
        self.assertIs(found[0], wrong)
        self.assertEqual(found[1], "accept")
        self.assertEqual(self.refused(market.tried, ["leave", "ann"]), (["leave", "ann"], "shape"))
        self.assertEqual(self.refused(market.tried, ("goal", ())), (("goal", ()), "shape"))
        self.assertEqual(self.refused(market.tried, ("goal", LAST[:1])), (("goal", LAST[:1]), "goal"))
        for value in ANY:
            if not isinstance(value, tuple) or value[:1] not in (("goal",), ("enter",)):
                self.refused(market.tried, ("leave", "ann"), value)
        self.assertEqual(market.log(), Market(MORE, FIRST).log())

    def test_full_counts_the_tried_events(self):
        market = Market(MORE, FIRST)
        market.do_all(*[("trade", SWAP)] * 58)
        self.assertEqual(market.tried(*[("trade", SWAP)] * 2), (AFTER, FIRST))
        event = ("trade", ("ann", "zoe"))
        self.assertEqual(self.refused(market.tried, *[("trade", SWAP)] * 2, event), (event, "full"))
        self.assertEqual(self.refused(market.tried, *[("trade", SWAP)] * 2, None), (None, "shape"))
        self.assertEqual(self.refused(Market(MORE, FIRST).tried, *[("trade", SWAP)] * 61)[1], "full")
        self.assertEqual(len(Market(MORE, FIRST).tried(*[("trade", SWAP)] * 60)), 60)

    def test_undo(self):
        market = Market(MORE, FIRST, goal=LAST)
        events = [("trade", SWAP), ("enter", "zoe", "zip"), ("sizes", (3,)), ("leave", "ann"), ("goal", None),
                  ("accept", ("zoe", "cot")), ("refuse", ("zoe", "cot"))]
        states = []
        for event in events:
            states.append((market.accepts, market.holding, market.sizes, market.goal, market.log()))
            market.go(event)
        for event in reversed(events):
            self.assertEqual(market.undo(), event)
            state = (market.accepts, market.holding, market.sizes, market.goal, market.log())
            self.assertEqual(state, states.pop())
        self.assertEqual(market.counts(), (14, 14))

    def test_nothing_to_undo(self):
        market = Market(MORE, FIRST)
        for many in (1, 2):
            with self.assertRaises(NothingToUndo) as caught:
                market.undo()
            self.assertEqual(caught.exception.steps, 0)
            self.assertEqual(market.counts(), (many, many))
        market(SWAP)
        market.undo()
        with self.assertRaises(NothingToUndo):
            market.undo()

    def test_do_all(self):
        market = Market(MORE, FIRST)
        self.assertEqual(market.do_all(), 0)
        self.assertEqual(market.do_all(("trade", SWAP), ("trade", ("ann", "cy"))), 2)
        self.assertEqual((market.holding, len(market), market.counts()), (LAST, 2, (2, 2)))

    def test_do_all_after_an_error(self):
        right = [("trade", SWAP), ("sizes", (2, 3)), ("enter", "zoe", "zip")]
        wrong = (None, ["leave", "ann"], ("leave", "joe"), ("trade", ("ann", "bob")), ("goal", FIRST[:1]))
        for event in wrong:
            for place in range(4):
                for named in ({}, {"keep": False}, {"keep": True}):
                    market = Market(MORE, FIRST, goal=LAST)
                    market.do_all(("trade", SWAP), ("accept", ("ann", "den")))
                    before = market.log()
                    events = right[:place] + [event] + right[place:]
                    found = self.refused(market.do_all, *events, **named)
                    self.assertIs(found[0], event)
                    kept = right[:place] if named.get("keep") else []
                    self.assertEqual(market.log(), before + tuple(kept))
                    model = Model(MORE, FIRST, (2,), LAST)
                    for one in market.log()[1:]:
                        model.apply(one)
                    model.check(self, market)
                    self.assertEqual(market.counts(), (2, 2))
                    self.check_undone(market)

    def check_undone(self, market):
        """Take everything back, and find the state as it was at each place."""
        events = market.log()[1:]
        while len(market):
            self.assertEqual(market.undo(), events[len(market)])
            model = Model(MORE, FIRST, (2,), LAST)
            for event in events[:len(market)]:
                model.apply(event)
            model.check(self, market)

    def test_full_within_do_all(self):
        for keep, many in ((False, 1), (True, 60)):
            market = Market(MORE, FIRST)
            market(SWAP)
            self.assertEqual(self.refused(market.do_all, *[("trade", SWAP)] * 60, keep=keep),
                             (("trade", SWAP), "full"))
            self.assertEqual((len(market), market.counts()), (many, (2, 2)))
        self.assertEqual(Market(MORE, FIRST).do_all(*[("trade", SWAP)] * 60), 60)

    def test_keep_by_name_only(self):
        market = Market(MORE, FIRST)
        self.assertEqual(self.refused(market.do_all, True), (True, "shape"))

    def test_counts_after_each_operation(self):
        market = Market(MORE, FIRST)
        operations = (
            lambda: self.set_goal(market, LAST), lambda: self.set_goal(market, ()), lambda: market.set_goal(LAST),
            lambda: market.set_goal(3), lambda: market.set_sizes((2,)), lambda: market.set_sizes(2),
            lambda: market.trade(SWAP), lambda: market.trade(None), lambda: market(SWAP), lambda: market(()),
            lambda: market.refuse(("cy", "bed")), lambda: market.accept(("cy", "bed")), lambda: market.accept(0),
            lambda: market.refuse(0), lambda: market.enter("zoe", "zip"), lambda: market.enter(0, 0),
            lambda: market.leave("zoe"), lambda: market.leave(0), lambda: market.go(("sizes", (3,))),
            lambda: market.go(None), lambda: market.undo(), lambda: market.do_all(), lambda: market.do_all(None),
            lambda: market.do_all(("goal", None), None, keep=True), lambda: market.do_all(("goal", None), ("goal", None)),
        )
        self.assertEqual(market.counts(), (0, 0))
        for many, operation in enumerate(operations, start=1):
            try:
                operation()
            except (InvalidEvent, InvalidGoal):
                pass
            self.assertEqual(market.counts(), (many, many))


class WalkTests(MarketTests):
    def test_markets_that_receive_events_of_every_kind(self):
        applied = {}
        refused = {}
        for seed in range(40):
            self.walk(random.Random(seed), 2 + seed % 5, applied, refused)
        self.assertEqual(set(applied), {"trade", "accept", "refuse", "goal", "sizes", "enter", "leave"})
        self.assertEqual(set(refused), {
            ("trade", "person"), ("trade", "size"), ("trade", "accept"), ("accept", "person"), ("accept", "item"),
            ("accept", "again"), ("refuse", "pair"), ("refuse", "held"), ("refuse", "goal"), ("goal", "goal"),
            ("enter", "person"), ("enter", "item"), ("leave", "person"), ("leave", "few"),
        })

    def walk(self, chance, many, applied, refused):
        accepts = some_accepts(chance.random(), many, many)
        begin = all_holdings(accepts)[0]
        market = Market(accepts, begin, sizes=(2, 3), goal=begin)
        model = Model(accepts, begin, (2, 3), begin)
        for step in range(25):
            event = chosen_event(chance, model)
            reason = model.reason(event)
            if reason is not None:
                refused[event[0], reason] = True
                self.assertEqual(self.refused(market.tried, event), (event, reason))
                self.assertEqual(self.refused(market.go, event), (event, reason))
            else:
                applied[event[0]] = True
                model.apply(event)
                tried = market.tried(event)
                self.assertEqual((market.go(event),), tried)
                self.assertEqual(market.holding, model.holding())
            self.assertEqual(market.counts(), (step + 1, step + 1))
            model.check(self, market)

    def test_advice_makes_the_distance_less_by_one(self):
        for accepts in all_accepts():
            holdings = all_holdings(accepts)
            for goal in holdings[:4]:
                market = Market(accepts, holdings[-1], sizes=(2, 3), goal=goal)
                while market.distance_to_goal:
                    far = market.distance_to_goal
                    market.trade(market.advice())
                    self.assertEqual(market.distance_to_goal, far - 1)
                self.assertIsNone(market.advice())

    def test_accept_and_refuse_change_distance_and_width_one_way(self):
        for accepts in all_accepts():
            holdings = all_holdings(accepts)
            market = Market(accepts, holdings[0], goal=holdings[-1])
            for pair in [(person, item) for person, item in full(4) if person in market]:
                before = (market.distance_to_goal, market.width_to_goal)
                if market_takes(market, ("accept", pair)):
                    market.accept(pair)
                    self.check_less(before, market)
                elif market_takes(market, ("refuse", pair)):
                    now = (market.distance_to_goal, market.width_to_goal)
                    market.refuse(pair)
                    later = (market.distance_to_goal, market.width_to_goal)
                    market.undo()
                    self.check_order(now, later)

    def check_less(self, before, market):
        self.check_order((market.distance_to_goal, market.width_to_goal), before)

    def check_order(self, less, more):
        for one, other in zip(less, more):
            self.assertLessEqual(HUGE if one is None else one, HUGE if other is None else other)

    def test_distance_is_that_of_reaching(self):
        market = Market(full(4), plain(4), sizes=(3,), goal=turned(4))
        self.assertEqual(market.distance_to_goal, distance(full(4), plain(4), turned(4), sizes=(3,)))
        self.assertIsNone(market.distance_to_goal)
        self.assertEqual(Market(BOTH, BOTH[::3], goal=BOTH[1:3]).distance_to_goal, 1)


def market_takes(market, event):
    try:
        market.tried(event)
    except InvalidEvent:
        return False
    return True
