"""[67]: the desk."""

import unittest

from handround.desk import Desk
from handround.errors import InvalidEvent, InvalidRow, NothingToUndo
from handround.eventtexts import event_line, log_lines
from handround.watching import Market
from tests.samples import FIRST, LAST, MORE, circle, plain, turned
from tests.test_eventreadings import FIRST_LINES, WRONG
from tests.test_eventtexts import LINES

BEGIN = (
    "market 2 ann:cot,bob:den,cy:bed ann:bed,bob:cot,cy:den "
    "ann:bed,ann:cot,bob:cot,bob:den,cy:bed,cy:cot,cy:den"
)
ANSWERS = (
    ("count", "0"), ("log", "-"), ("holding", "ann:bed,bob:cot,cy:den"), ("goal", "ann:cot,bob:den,cy:bed"),
    ("sizes", "2"), ("distance", "2"), ("width", "2"), ("trades", "bob>cy"), ("advice", "bob>cy"),
    ("table", "ann      bed        2 *\nbob      cot        2 *\ncy       den        3 *"),
)
QUESTIONS = tuple(row for row, answer in ANSWERS)


class DeskTests(unittest.TestCase):
    def setUp(self):
        self.desk = Desk()

    def refused(self, row):
        with self.assertRaises(InvalidRow, msg=row) as caught:
            self.desk.say(row)
        self.assertIs(caught.exception.row, row)

    def test_methods_stand_in_the_class_itself(self):
        self.assertLessEqual({"say", "counts"}, set(vars(Desk)))

    def test_before_the_first_market(self):
        for row in QUESTIONS + ("undo", "", "-", "leave ann", "trade ann>bob", "x", "trade bob>ann", BEGIN + " x"):
            self.refused(row)
        self.assertEqual(self.desk.say(BEGIN), "ok")
        self.assertEqual(self.desk.say("count"), "0")

    def test_answers(self):
        self.desk.say(BEGIN)
        for row, answer in ANSWERS:
            self.assertEqual(self.desk.say(row), answer)
            self.assertEqual(self.desk.say(row=row), answer)

    def test_events(self):
        self.desk.say(BEGIN)
        self.assertEqual(self.desk.say("trade bob>cy"), "ann:bed,bob:den,cy:cot")
        self.assertEqual(self.desk.say("refuse cy:den"), "ann:bed,bob:den,cy:cot")
        self.assertEqual(self.desk.say("accept cy:den"), "ann:bed,bob:den,cy:cot")
        self.assertEqual(self.desk.say("sizes 2,3"), "ann:bed,bob:den,cy:cot")
        self.assertEqual(self.desk.say("goal -"), "ann:bed,bob:den,cy:cot")
        self.assertEqual(self.desk.say("enter zoe zip"), "ann:bed,bob:den,cy:cot,zoe:zip")
        self.assertEqual(self.desk.say("leave ann"), "bob:den,cy:cot,zoe:zip")
        self.assertEqual(self.desk.say("count"), "7")
        self.assertEqual(
            self.desk.say("log"),
            "trade bob>cy / refuse cy:den / accept cy:den / sizes 2,3 / goal - / enter zoe zip / leave ann",
        )
        self.assertEqual(self.desk.say("undo"), "leave ann")
        self.assertEqual(self.desk.say("holding"), "ann:bed,bob:den,cy:cot,zoe:zip")
        self.assertEqual(self.desk.say("sizes"), "2,3")

    def test_neither_goal_nor_sizes(self):
        self.desk.say(BEGIN)
        self.desk.say("goal -")
        for row, answer in (("goal", "-"), ("distance", "none"), ("width", "none"), ("advice", "none")):
            self.assertEqual(self.desk.say(row), answer)
        self.desk.say("sizes -")
        self.assertEqual((self.desk.say("sizes"), self.desk.say("trades")), ("-", "-"))
        self.assertEqual(self.desk.say("table").split("\n")[2], "cy       den        3  ")

    def test_goals_that_are_far_or_reached(self):
        self.desk.say(BEGIN)
        self.desk.say("sizes 4")
        self.assertEqual([self.desk.say(row) for row in ("distance", "width", "advice")], ["none", "2", "none"])
        self.desk.say("sizes 3")
        self.assertEqual([self.desk.say(row) for row in ("distance", "advice")], ["1", "ann>cy>bob"])
        self.assertEqual(self.desk.say("trade ann>cy>bob"), "ann:cot,bob:den,cy:bed")
        self.assertEqual([self.desk.say(row) for row in ("distance", "width", "advice")], ["0", "1", "none"])

    def test_the_width_of_six_people(self):
        log = (("market", circle(6), plain(6), (2, 6), turned(6)),)
        self.desk.say(log_lines(log)[0])
        self.assertEqual([self.desk.say(row) for row in ("width", "distance")], ["6", "1"])
        self.assertEqual(self.desk.say("trades"), "ann>fay>eve>dan>cy>bob")

    def test_several_trades(self):
        self.desk.say(BEGIN)
        self.desk.say("sizes 2,3")
        self.assertEqual(self.desk.say("trades"), "ann>cy>bob bob>cy")

    def test_undo(self):
        self.desk.say(BEGIN)
        for event, line in LINES:
            try:
                self.desk.say(line)
            except InvalidEvent as error:
                self.assertEqual(error.event, event)
                continue
            self.assertEqual(self.desk.say("undo"), line)
        with self.assertRaises(NothingToUndo) as caught:
            self.desk.say("undo")
        self.assertEqual(caught.exception.steps, 0)

    def test_errors_of_events(self):
        self.desk.say(BEGIN)
        for line, event, reason in (
            ("trade ann>bob", ("trade", ("ann", "bob")), "accept"), ("leave zoe", ("leave", "zoe"), "person"),
            ("goal cy:bed", ("goal", (("cy", "bed"),)), "goal"), ("refuse ann:bed", ("refuse", ("ann", "bed")), "held"),
        ):
            with self.assertRaises(InvalidEvent) as caught:
                self.desk.say(line)
            self.assertEqual((caught.exception.event, caught.exception.reason), (event, reason))
        self.assertEqual((self.desk.say("count"), self.desk.say("holding")), ("0", "ann:bed,bob:cot,cy:den"))

    def test_full(self):
        self.desk.say(BEGIN)
        for _ in range(60):
            self.desk.say("trade bob>cy")
        with self.assertRaises(InvalidEvent) as caught:
            self.desk.say("leave zoe")
        self.assertEqual(caught.exception.reason, "full")
        self.refused("leave Zoe")
        self.assertEqual(self.desk.say("count"), "60")

    def test_rows_that_are_none(self):
        self.desk.say(BEGIN)
        self.desk.say("trade bob>cy")
        known = ("undo", "log", "goal", "sizes", "market 2 - ann:bed,bob:cot ann:bed,bob:cot")
        rows = [line for line, field in WRONG if line not in known]
        rows += [line for line, field in FIRST_LINES if line not in ("goal -", "trade a>b")]
        rows += [row + tail for row in QUESTIONS + ("undo",) for tail in (" ", " x", "\n", " -", "\nlog")
                 if row + tail not in ("goal -", "sizes -")]
        rows += [head + row for row in QUESTIONS for head in (" ", "\n", "x")]
        rows += ["Count", "ok", "none", "replay", "counts", "market", "do_all", "say log", BEGIN + "\n", BEGIN + " ",
                 BEGIN + "\nleave ann", "\n" + BEGIN, BEGIN.replace("ann:bed,ann:cot,", "ann:bed,"),
                 BEGIN.replace("market 2 ", "market 2 -,"), BEGIN.replace(" ann:bed,bob:cot", " bob:cot,ann:bed")]
        for row in rows:
            self.refused(row)
        self.assertEqual(self.desk.say("log"), "trade bob>cy")

    def test_a_new_market_in_the_place_of_the_old_one(self):
        self.desk.say(BEGIN)
        self.desk.say("trade bob>cy")
        self.assertEqual(self.desk.say("market 3 - a:a,b:b a:a,a:b,b:a,b:b"), "ok")
        self.assertEqual([self.desk.say(row) for row in ("count", "holding", "sizes", "goal")], ["0", "a:a,b:b", "3", "-"])
        self.assertEqual(self.desk.say(BEGIN), "ok")
        self.assertEqual(self.desk.say("log"), "-")

    def test_counts(self):
        self.assertEqual(self.desk.counts(), (0, 0))
        rows = ("x", "undo", BEGIN, "undo", "count", "leave zoe", "trade bob>cy", "undo", "", BEGIN + "\n", BEGIN)
        for many, row in enumerate(rows, start=1):
            try:
                self.desk.say(row)
            except (InvalidRow, InvalidEvent, NothingToUndo):
                pass
            self.assertEqual(self.desk.counts(), (many, many))

    def test_two_desks(self):
        other = Desk()
        self.desk.say(BEGIN)
        with self.assertRaises(InvalidRow):
            other.say("count")
        self.assertEqual((self.desk.counts(), other.counts()), ((1, 1), (1, 1)))

    def test_every_answer_is_that_of_a_market(self):
        self.desk.say(BEGIN)
        market = Market(MORE, FIRST, goal=LAST)
        for event in (("trade", ("bob", "cy")), ("trade", ("ann", "cy")), ("enter", "zoe", "zip"), ("sizes", (2, 3))):
            answer = self.desk.say(event_line(event))
            self.assertEqual(answer, ",".join(":".join(pair) for pair in market.go(event)))
            self.assertEqual(self.desk.say("log"), str(market))
            self.assertEqual(self.desk.say("table"), "\n".join(market.table()))
            self.assertEqual(self.desk.say("trades").split(" "), [">".join(ring) for ring in market.trades()] or ["-"])
            for word in QUESTIONS:
                self.assertIs(type(self.desk.say(word)), str)
