"""[2], [18], [19]: strings read as rings, rows, holdings and accepts."""

import random
import re
import unittest

from handround.errors import InvalidText
from handround.ringreadings import accepts_read, holding_read, ring_read, row_read
from handround.ringtexts import accepts_text, holding_text, ring_text, row_text
from tests.calls import asked, raises, returns
from tests.samples import PEOPLE, all_accepts, all_holdings, all_rings, full, some_accepts
from tests.test_ringtexts import ACCEPTS, HOLDINGS, RINGS, ROWS

# Words that write no ring, whoever begins it.
NO_RING_WORDS = (
    "", "-", "--", "ann", "ann>", ">ann", "ann>>bob", ">", ">ann>bob", "ann>bob>", "ann>ann", "ann>bob>ann",
    "ann>bob>bob", "Ann>bob", "ann>Bob", "ann>b1", "ann>b-b", "ann>bob\n", "\nann>bob", "ann\n>bob", "ann>\nbob",
    "ann:bob", "ann,bob", "ann<bob", "ann>abcdefghi", "abcdefghi>b", "ann>bob,", "ann>-", "->bob", "\n", "-\n", "(",
    "ann>bob>Cy", "ann>b_b", "ann'>bob", "ann>bob.", "0", "1>2",
)
# Rings that do not begin with their least person.
TURNED = ("bob>ann", "bob>cy>ann", "cy>ann>bob", "b>a", "aa>a", "z>y>x")
# Words that write no pair.
NO_PAIR_WORDS = (
    "", "-", "ann", "ann:", ":bed", ":", "ann::bed", "ann:bed:cot", "ann>bed", "ann,bed", "ann:bed,bob:cot",
    "ann:bed\n", "\nann:bed", "ann:\nbed", "Ann:bed", "ann:Bed", "ann:b1", "abcdefghi:bed", "ann:abcdefghi", "ann:-",
    "ann:bed:", "ann;bed", "\n", "ann:bed,",
)
# Words that write no ascending items.
NO_ITEMS = (
    "", "-", ",", "bed,", ",bed", "bed,,cot", "cot,bed", "bed,bed", "bed,cot,cot", "bed,den,cot", "Bed", "bed,Cot",
    "b1", "bed:cot", "bed>cot", "abcdefghi", "bed,abcdefghi", "bed;cot", "bed,-", "bed.",
)
WRONG_HOLDINGS = (
    ("ann:bed bob:bed", 1), ("ann:bed ann:cot", 1), ("bob:bed ann:cot", 1), ("ann:bed bob:cot cy:bed", 2),
    ("ann:bed bob:cot bob:den", 2), ("ann:bed cy:cot bob:den", 2), ("ann:bed  bob:cot", 1), ("ann:bed ", 1),
    (" ann:bed", 0), ("ann:bed bob:cot ", 2), ("ann:bed\nbob:cot", 0), ("ann:bed bob:cot\n", 1), (" ", 0),
    ("ann:bed -", 1), ("- ann:bed", 0), ("ann:bed bob:cot -", 2), ("a:a aa:a", 1), ("aa:a a:b", 1), ("ann:bed bob", 1),
    ("ann:bed cy:den bob:Cot", 2), ("bob:bed ann:bed", 1), ("ann:bed ann:bed", 1), ("ann bed", 0),
)
WRONG_ACCEPTS = (
    ("", 0, 0), ("-", 0, 0), (" ", 0, 0), ("\n", 0, 0), ("ann", 0, 1), ("ann ", 0, 1), ("ann  bed", 0, 1),
    (" ann bed", 0, 0), ("ann bed ", 0, 2), ("ann bed cot", 0, 2), ("ann bed  ", 0, 2), ("ann bed -", 0, 2),
    ("ann cot,bed", 0, 1), ("ann cot,bed x", 0, 1), ("Ann bed", 0, 0), ("Ann Bed", 0, 0), ("Ann", 0, 0),
    ("ann bed\n", 1, 0), ("ann bed\nbob", 1, 1), ("ann bed\nbob ", 1, 1), ("ann bed\nbob cot ", 1, 2),
    ("ann bed\nann cot", 1, 0), ("bob bed\nann cot", 1, 0), ("ann bed\n\nbob cot", 1, 0), ("\nann bed", 0, 0),
    ("ann bed\nbob cot\n", 2, 0), ("ann bed\nbob cot\nbob den", 2, 0), ("ann bed\ncy cot\nbob den", 2, 0),
    ("ann bed\nbob cot\nann den", 2, 0), ("ann bed\n bob cot", 1, 0), ("ann bed \nbob cot", 0, 2),
    ("ann bed\nann cot,bed x", 1, 0), ("ann x,x\nann", 0, 1), ("aa bed\na bed", 1, 0), ("ann bed\nbob - cot", 1, 1),
    ("ann:bed", 0, 0), ("ann bed\nbob:cot", 1, 0), ("-\nann bed", 0, 0), ("ann bed\n-", 1, 0),
)
EVERY = (ring_read, row_read, holding_read, accepts_read)
WRITERS = {ring_read: ring_text, row_read: row_text, holding_read: holding_text, accepts_read: accepts_text}


class Invalid(Exception):
    pass


def name_after(word, before=""):
    if not re.fullmatch("[a-z]{1,8}", word) or not before < word:
        raise Invalid
    return word


def ring_by_words(word):
    names = [name_after(name) for name in word.split(">")]
    if len(names) < 2 or sorted(set(names)) != sorted(names) or names[0] != min(names):
        raise Invalid
    return tuple(names)


def pair_by_words(word, before):
    if word.count(":") != 1:
        raise Invalid
    person, item = word.split(":")
    name_after(item)
    if item in [held for other, held in before]:
        raise Invalid
    return (name_after(person, before[-1][0] if before else ""), item)


def items_by_words(word):
    found = [""]
    for item in word.split(","):
        found.append(name_after(item, found[-1]))
    return tuple(found[1:])


def line_by_words(line, before):
    """What a line of accepts writes, or the field at which it is wrong."""
    words = line.split(" ")
    field = 0
    try:
        person = name_after(words[0], before)
        field = 1
        items = items_by_words((words + [""])[1])
        field = 2
    except Invalid:
        return field
    return 2 if len(words) > 2 else [(person, item) for item in items]


def by_words(function, text):
    """What the reader returns by [19], or the line and the field of the error."""
    found = []
    if function == accepts_read:
        for at, line in enumerate(text.split("\n")):
            pairs = line_by_words(line, found[-1][0] if found else "")
            if isinstance(pairs, int):
                return (None, (at, pairs))
            found.extend(pairs)
        return (tuple(found), None)
    if function == row_read and text == "-":
        return ((), None)
    for at, word in enumerate(text.split(" ")):
        try:
            if function == ring_read and at == 1:
                raise Invalid
            found.append(pair_by_words(word, found) if function == holding_read else ring_by_words(word))
        except Invalid:
            return (None, (0, at))
    return (found[0] if function == ring_read else tuple(found), None)


class ReadTests(unittest.TestCase):
    def read(self, function, text, thing):
        self.assertEqual(asked(self, function, {"text": text}), returns(thing), text)
        self.assertEqual(by_words(function, text), (thing, None), text)
        self.assertEqual(WRITERS[function](thing), text)

    def refuse(self, function, text, line, field):
        self.assertEqual(asked(self, function, {"text": text}), raises(InvalidText, line, field), repr(text))
        self.assertEqual(by_words(function, text), (None, (line, field)), repr(text))

    def test_example(self):
        self.refuse(holding_read, "ann:bed bob:bed", 0, 1)

    def test_there_and_back(self):
        for function, pairs in ((ring_read, RINGS), (row_read, ROWS), (holding_read, HOLDINGS),
                                (accepts_read, ACCEPTS)):
            for thing, text in pairs:
                self.read(function, text, thing)

    def test_many_there_and_back(self):
        rings = all_rings(PEOPLE[:5], (2, 3, 4, 5))
        for at, ring in enumerate(rings):
            self.read(ring_read, ring_text(ring), ring)
            row = tuple(rings[at * at % 7:at % 40 + 1])
            self.read(row_read, row_text(row), row)
        for accepts in all_accepts() + [full(8)]:
            self.read(accepts_read, accepts_text(accepts), accepts)
            for holding in all_holdings(accepts)[:20]:
                self.read(holding_read, holding_text(holding), holding)

    def test_one_person_and_more_items_than_people(self):
        self.read(holding_read, "ann:bed", (("ann", "bed"),))
        self.read(accepts_read, "ann bed", (("ann", "bed"),))
        self.read(accepts_read, "ann bed,cot,den", (("ann", "bed"), ("ann", "cot"), ("ann", "den")))
        self.read(accepts_read, "ann bed\nbob bed", (("ann", "bed"), ("bob", "bed")))
        self.read(holding_read, "a:z b:y c:x", (("a", "z"), ("b", "y"), ("c", "x")))

    def test_rows_of_many_rings(self):
        self.read(row_read, " ".join(["ann>bob"] * 400), (("ann", "bob"),) * 400)
        self.refuse(row_read, " ".join(["ann>bob"] * 400 + ["bob>ann", ""]), 0, 400)

    def test_words_that_are_no_rings(self):
        for word in NO_RING_WORDS + TURNED:
            self.refuse(ring_read, word, 0, 0)
            self.refuse(ring_read, word + " ann>bob", 0, 0)
            self.refuse(row_read, word + " ann>bob", 0, 0)
            self.refuse(row_read, "ann>bob " + word, 0, 1)
            self.refuse(row_read, "ann>bob bob>cy " + word + " -", 0, 2)
            if word != "-":
                self.refuse(row_read, word, 0, 0)

    def test_a_word_too_many(self):
        for word in NO_RING_WORDS + TURNED + ("ann>bob", "bob>cy"):
            self.refuse(ring_read, "ann>bob " + word, 0, 1)
            self.refuse(ring_read, "ann>bob bob>cy " + word, 0, 1)
        for text, line, field in (("ann bed x", 0, 2), ("ann bed x y", 0, 2), ("ann bed\nbob cot x\nA", 1, 2)):
            self.refuse(accepts_read, text, line, field)

    def test_the_lone_stroke(self):
        self.read(row_read, "-", ())
        for text in ("- -", "- ann>bob", "-\n", "- ", " -"):
            self.refuse(row_read, text, 0, 0)
        self.refuse(row_read, "ann>bob -", 0, 1)
        for function in (ring_read, holding_read, accepts_read):
            self.refuse(function, "-", 0, 0)

    def test_the_empty_string_and_spaces(self):
        for function in EVERY:
            for text in ("", " ", "  ", "\n", " \n"):
                self.refuse(function, text, 0, 0)

    def test_wrong_holdings(self):
        for text, field in WRONG_HOLDINGS:
            self.refuse(holding_read, text, 0, field)
        for word in NO_PAIR_WORDS:
            self.refuse(holding_read, word, 0, 0)
            self.refuse(holding_read, word + " bob:cot", 0, 0)
            self.refuse(holding_read, "aa:cot " + word, 0, 1)
            self.refuse(holding_read, "aa:cot ab:den " + word + " aa:cot", 0, 2)

    def test_wrong_accepts(self):
        for text, line, field in WRONG_ACCEPTS:
            self.refuse(accepts_read, text, line, field)
            if not text.startswith("\n") and line == 0:
                self.refuse(accepts_read, "a x\n" + text, line + 1, field)
        for word in NO_ITEMS:
            self.refuse(accepts_read, "ann " + word, 0, 1)
            self.refuse(accepts_read, "ann " + word + "\nA", 0, 1)
            self.refuse(accepts_read, "ann bed\nbob " + word, 1, 1)
        for word in ("ann:", "Ann", "a1", "abcdefghi", "ann,bob", "-", ""):
            self.refuse(accepts_read, word + " bed", 0, 0)
            self.refuse(accepts_read, "a bed\n" + word + " Bed x", 1, 0)

    def test_newlines_begin_a_line_in_accepts_only(self):
        self.assertEqual(len(accepts_read("ann bed\nbob cot")), 2)
        self.refuse(row_read, "ann>bob\nann>bob", 0, 0)
        self.refuse(row_read, "ann>bob ann>bob\n", 0, 1)
        self.refuse(ring_read, "ann>bob\n", 0, 0)
        self.refuse(holding_read, "ann:bed bob:cot\ncy:den", 0, 1)

    def test_changed_texts(self):
        chance = random.Random(5)
        texts = ["-", "ann>bob", "ann>cy>bob bob>cy", "bob>ann ann>cy", "ann:bed bob:cot cy:den"]
        texts += [accepts_text(some_accepts(seed, 3, 4)) for seed in range(3)]
        right = 0
        for _ in range(6000):
            text = chance.choice(texts)
            for _ in range(chance.choice((1, 1, 2, 3))):
                at = chance.randrange(len(text) + 1)
                text = text[:at] + chance.choice(("", "", *"abnz>:, -\nA1")) + text[at + chance.randrange(3):]
            for function in EVERY:
                thing, fault = by_words(function, text)
                expected = returns(thing) if fault is None else raises(InvalidText, *fault)
                self.assertEqual(asked(self, function, {"text": text}), expected, repr(text))
                if fault is None:
                    right += 1
                    self.assertEqual(WRITERS[function](thing), text)
        self.assertGreater(right, 300)
