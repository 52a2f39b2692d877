"""[64], [66]: events and logs read from strings."""

import unittest

from handround.errors import InvalidText
from handround.eventreadings import read_event, read_log
from handround.eventtexts import log_lines
from tests.samples import FIRST, HUGE, LAST, MORE
from tests.test_eventtexts import LINES

SIXTY = "9" * 60
# Each line with the field at which it is wrong.
WRONG = (
    ("", 0), ("-", 0), (" ", 0), ("- ", 0), ("x", 0), ("Trade ann>bob", 0), ("undo", 0), ("log", 0), ("market", 0),
    ("market 2 - ann:bed,bob:cot ann:bed,bob:cot", 0), (" trade ann>bob", 0), ("trade\nann>bob", 0),
    ("trade\n ann>bob", 0), ("\ntrade ann>bob", 0), ("trades ann>bob", 0), ("- trade ann>bob", 0),
    ("trade", 1), ("trade ", 1), ("trade  ann>bob", 1), ("trade -", 1), ("trade ann", 1), ("trade bob>ann", 1),
    ("trade ann>", 1), ("trade >ann", 1), ("trade ann>ann", 1), ("trade ann>bob>bob", 1), ("trade ann>Bob", 1),
    ("trade ann>bob\n", 1), ("trade ann:bob", 1), ("trade ann,bob", 1), ("trade ann>>bob", 1), ("trade ann>b1", 1),
    ("trade ann>bob x", 2), ("trade ann>bob ", 2), ("trade ann>bob  ", 2), ("trade bob>ann x", 1),
    ("trade ann>abcdefghi", 1), ("trade ann>cy>bob>cy", 1),
    ("accept", 1), ("accept ", 1), ("accept -", 1), ("accept ann", 1), ("accept ann bed", 1), ("accept ann:", 1),
    ("accept :bed", 1), ("accept ann:bed:cot", 1), ("accept ann:bed,bob:cot", 1), ("accept ann>bed", 1),
    ("accept ann:bed x", 2), ("accept ann:bed\n", 1), ("accept ann:Bed", 1), ("accept ann:bed ", 2),
    ("refuse", 1), ("refuse ann:", 1), ("refuse -", 1), ("refuse ann:bed ann:cot", 2), ("refuse ann:bed\n x", 1),
    ("goal", 1), ("goal ", 1), ("goal ann", 1), ("goal ann:bed,", 1), ("goal ,ann:bed", 1), ("goal --", 1),
    ("goal ann:bed,,bob:cot", 1), ("goal - -", 2), ("goal ann:bed bob:cot", 2), ("goal ann:bed,-", 1), ("goal none", 1),
    ("goal -,ann:bed", 1), ("goal ann:bed,bob", 1), ("goal -\n", 1), ("goal - ", 2), ("goal ,", 1), ("goal :", 1),
    ("sizes", 1), ("sizes ", 1), ("sizes 1", 1), ("sizes 0", 1), ("sizes 02", 1), ("sizes 2,", 1), ("sizes ,2", 1),
    ("sizes 2,2", 1), ("sizes 3,2", 1), ("sizes 2,03", 1), ("sizes +2", 1), ("sizes -2", 1), ("sizes 2_0", 1),
    ("sizes 2,-", 1), ("sizes 2 3", 2), ("sizes - 2", 2), ("sizes 2\n", 1), ("sizes two", 1), ("sizes 2.0", 1),
    ("sizes 1" + 60 * "0", 1), ("sizes 2," + SIXTY + "0", 1), ("sizes 0,2", 1), ("sizes 1,2", 1), ("sizes 00", 1),
    ("sizes 2, 3", 1), ("sizes --", 1), ("sizes 2,3,3", 1), ("sizes \xb2", 1), ("sizes 0" + SIXTY, 1),
    ("enter", 1), ("enter ", 1), ("enter zoe", 2), ("enter zoe ", 2), ("enter zoe:zip", 1), ("enter Zoe zip", 1),
    ("enter zoe -", 2), ("enter zoe Zip", 2), ("enter zoe zip x", 3), ("enter zoe zip ", 3), ("enter  zoe zip", 1),
    ("enter zoe  zip", 2), ("enter zoe zip\n", 2), ("enter abcdefghi zip", 1), ("enter zoe abcdefghi", 2),
    ("enter - zip", 1), ("enter zoe\n zip", 1), ("enter z0e zip", 1),
    ("leave", 1), ("leave ", 1), ("leave -", 1), ("leave Ann", 1), ("leave ann bob", 2), ("leave ann ", 2),
    ("leave ann\n", 1), ("leave abcdefghi", 1), ("leave ann:bed", 1), ("leave  ann", 1),
)
FIRST_LINES = (
    ("market", 1), ("market ", 1), ("market x - a:a a:a", 1), ("market 2", 2), ("market 2 ", 2), ("market 2 x", 2),
    ("market 2 -", 3), ("market 2 - ", 3), ("market 2 - -", 3), ("market 2 - a:a", 4), ("market 2 - a:a -", 4),
    ("market 2 - a:a ", 4), ("market 2 - a:a a:a x", 5), ("market 2 - a:a a:a ", 5), ("market 2 - a:a a:a,", 4),
    ("market 02 - a:a a:a", 1), ("market 3,2 - a:a a:a", 1), ("market - a:a, a:a a:a", 2), ("market\n", 0),
    ("market 2 a:a - a:a", 3), ("market 2  a:a a:a", 2), ("market 2 - a:a a:a\n", 4), ("market 2 - a a:a", 3),
    ("", 0), ("-", 0), ("trade a>b", 0), ("goal -", 0), (" market 2 - a:a a:a", 0), ("markets 2 - a:a a:a", 0),
)
BEGIN = "market 2 - ann:bed,bob:cot ann:bed,ann:cot,bob:bed,bob:cot"


class ReadTests(unittest.TestCase):
    def refused(self, function, given):
        with self.assertRaises(InvalidText) as caught:
            function(given)
        return (caught.exception.line, caught.exception.field)

    def test_lines_there_and_back(self):
        for event, line in LINES:
            self.assertEqual(read_event(line), event)
            self.assertEqual(read_event(text=line), event)

    def test_wrong_events(self):
        for text, field in WRONG:
            self.assertEqual(self.refused(read_event, text), (0, field), text)

    def test_wrong_events_in_a_log(self):
        for text, field in WRONG:
            self.assertEqual(self.refused(read_log, [BEGIN, text]), (1, field), text)
            self.assertEqual(self.refused(read_log, [BEGIN, "leave ann", text, ""]), (2, field), text)

    def test_wrong_first_lines(self):
        for text, field in FIRST_LINES:
            self.assertEqual(self.refused(read_log, [text]), (0, field), text)
            self.assertEqual(self.refused(read_log, [text, "", "x"]), (0, field), text)

    def test_no_lines(self):
        self.assertEqual(self.refused(read_log, []), (0, 0))

    def test_numbers_of_sixty_digits(self):
        self.assertEqual(read_event("sizes 2," + SIXTY), ("sizes", (2, 10 ** 60 - 1)))
        self.assertEqual(read_event("sizes 1" + 59 * "0"), ("sizes", (HUGE,)))

    def test_names_of_one_letter_and_words(self):
        self.assertEqual(read_event("trade trade>x"), ("trade", ("trade", "x")))
        self.assertEqual(read_event("enter market goal"), ("enter", "market", "goal"))
        self.assertEqual(read_event("goal goal:leave,a:a"), ("goal", (("goal", "leave"), ("a", "a"))))

    def test_pairs_in_any_order(self):
        self.assertEqual(read_event("goal b:b,a:a,b:b"), ("goal", (("b", "b"), ("a", "a"), ("b", "b"))))

    def test_logs_there_and_back(self):
        events = tuple(event for event, line in LINES)
        for begin in (("market", MORE, FIRST, (2, 3), LAST), ("market", MORE, FIRST, (), None)):
            for log in ((begin,), (begin,) + events):
                self.assertEqual(read_log(log_lines(log)), log)
                self.assertEqual(read_log(lines=log_lines(log)), log)

    def test_the_first_line_need_not_be_that_of_a_log(self):
        self.assertEqual(
            read_log(["market 2,9 c:c b:b,b:b z:z,a:a", "leave ann"]),
            (("market", (("z", "z"), ("a", "a")), (("b", "b"), ("b", "b")), (2, 9), (("c", "c"),)), ("leave", "ann")),
        )

    def test_kinds_and_the_argument(self):
        lines = [BEGIN, "trade ann>bob"]
        log = read_log(lines)
        self.assertEqual(lines, [BEGIN, "trade ann>bob"])
        self.assertIs(type(log), tuple)
        self.assertTrue(all(type(event) is tuple for event in log))
        self.assertIs(type(read_event("goal a:a")[1]), tuple)
        self.assertIs(type(read_event("sizes 2")[1][0]), int)
