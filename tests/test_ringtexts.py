"""[2], [18]: rings, rows, holdings and accepts as strings."""

import unittest

from handround.ringtexts import accepts_text, holding_text, ring_text, row_text
from tests.calls import asked, returns
from tests.samples import (
    FIRST, LAST, MORE, NONE, PEOPLE, SAME, THREE, all_accepts, all_holdings, all_rings, circle, full, plain,
)

RINGS = (
    (("ann", "bob"), "ann>bob"), (("ann", "cy", "bob"), "ann>cy>bob"), (("a", "b"), "a>b"),
    (("abcdefgh", "bed", "zzzzzzzz"), "abcdefgh>bed>zzzzzzzz"), (PEOPLE, "ann>bob>cy>dan>eve>fay>gus>hal"),
)
ROWS = (
    ((), "-"), ((("ann", "bob"),), "ann>bob"), ((("bob", "cy"), ("ann", "cy", "bob")), "bob>cy ann>cy>bob"),
    ((("a", "b"), ("a", "b"), ("a", "b")), "a>b a>b a>b"),
)
HOLDINGS = (
    (FIRST, "ann:bed bob:cot cy:den"), (LAST, "ann:cot bob:den cy:bed"),
    ((("a", "a"), ("abcdefgh", "abcdefgh")), "a:a abcdefgh:abcdefgh"),
    (plain(8), "ann:bed bob:cot cy:den dan:elm eve:fan fay:gem gus:hat hal:ink"),
)
ACCEPTS = (
    (THREE, "ann bed,cot\nbob cot,den\ncy bed,den"), (MORE, "ann bed,cot\nbob cot,den\ncy bed,cot,den"),
    (SAME, "a a,abcdefgh\nabcdefgh a,abcdefgh"), (NONE, "ann bed\nbob bed,cot,den\ncy bed"),
    ((("ann", "cot"), ("bob", "bed")), "ann cot\nbob bed"), (circle(2), "ann bed,cot\nbob bed,cot"),
)


class TextTests(unittest.TestCase):
    def check(self, function, name, thing, text):
        self.assertEqual(asked(self, function, {name: thing}), returns(text))

    def test_rings(self):
        for ring, text in RINGS:
            self.check(ring_text, "ring", ring, text)

    def test_rows(self):
        for row, text in ROWS:
            self.check(row_text, "row", row, text)

    def test_holdings(self):
        for holding, text in HOLDINGS:
            self.check(holding_text, "holding", holding, text)

    def test_accepts(self):
        for accepts, text in ACCEPTS:
            self.check(accepts_text, "accepts", accepts, text)

    def test_against_the_words(self):
        for ring in all_rings(PEOPLE[:5], (2, 3, 4, 5)):
            self.check(ring_text, "ring", ring, "".join(name + ">" for name in ring)[:-1])
        rings = all_rings(PEOPLE[:4], (2, 3, 4))
        for many in range(1, 41):
            row = tuple(rings[at * many % len(rings)] for at in range(many))
            self.check(row_text, "row", row, "".join(ring_text(ring) + " " for ring in row)[:-1])
        for accepts in all_accepts() + [full(6), full(8)]:
            lines = ""
            for person in sorted(dict(accepts)):
                items = sorted(item for other, item in accepts if other == person)
                lines += person + " " + "".join(item + "," for item in items)[:-1] + "\n"
            self.check(accepts_text, "accepts", accepts, lines[:-1])
        for accepts in all_accepts():
            for holding in all_holdings(accepts):
                words = "".join(person + ":" + item + " " for person, item in holding)
                self.check(holding_text, "holding", holding, words[:-1])
