"""[2], [14], [15], [16], [17]: handings."""

import random
import types
import unittest

from handround.desk import Desk
from handround.errors import InvalidText, InvalidTrade, UnknownPerson
from handround.handings import Handing, Ring, Row, Still, Swap
from handround.ringreadings import ring_read, row_read
from handround.watching import Market
from tests.calls import answer, asked, raises, returns
from tests.handingmodel import Told, back, chosen, cycles, of_rings, of_row, often, one_ring, product
from tests.samples import (
    ANY, FIRST, HUGE, LAST, MORE, PEOPLE, THREE, all_accepts, all_holdings, all_rings, full, handed, plain,
    rings_between, turned,
)
from tests.test_ringreadings import NO_RING_WORDS, TURNED

NINE = PEOPLE + ("ida",)
TEN = NINE + ("jo",)
TURN = ("ann", "cy", "bob")
CLASSES = (Handing, Ring, Swap, Still, Row)


class Turn(Ring):
    """A class that somebody else derived."""


class Long(Row):
    """Another one."""


def is_round(thing):
    """Whether a value of ANY is a tuple of two or more different names."""
    names = isinstance(thing, tuple) and all(isinstance(one, str) and one.isalpha() for one in thing)
    return names and all(one.islower() and len(one) <= 8 for one in thing) and len(set(thing)) == len(thing) >= 2


def some_handings(seed=1, many=60, depth=3, names=PEOPLE):
    """Pairs of handings of all classes and what they must be."""
    chance = random.Random(seed)
    fixed = [
        (Still(), Told({})), (Handing(), Told({})), (Row(), Told({})), (Row(Still(), Row()), Told({})),
        (Ring(*TURN), of_rings(TURN)), (Swap("cy", "ann"), of_rings(("ann", "cy"))), (Turn(*TURN), of_rings(TURN)),
        (Handing(("ann", "bob"), ("cy", "dan")), of_rings(("ann", "bob"), ("cy", "dan"))),
        (Row(Swap("ann", "bob"), Swap("ann", "bob")), of_row(*[of_rings(("ann", "bob"))] * 2)),
        (Ring(*PEOPLE) * Swap("hal", "ida"), of_rings(PEOPLE, ("hal", "ida"))),
    ]
    return fixed + [chosen(chance, names, depth) for _ in range(many)]


def words_of(told):
    return Told(told.gets).words


class BuildTests(unittest.TestCase):
    def refuse(self, made, thing, reason, *given):
        self.assertEqual(answer(made, *given), raises(InvalidTrade, thing, reason), (made, given))

    def test_classes(self):
        self.assertEqual([one.__bases__ for one in CLASSES], [(object,), (Handing,), (Ring,), (Handing,), (Handing,)])

    def test_example(self):
        self.assertEqual(Handing(("cy", "bob", "ann")).rings, (TURN,))

    def test_against_each_person(self):
        for handing, told in some_handings(many=400):
            told.check(self, handing)

    def test_rings_begin_with_anybody(self):
        for ring in all_rings(PEOPLE[:5], (2, 3, 4, 5)):
            for at in range(len(ring)):
                again = ring[at:] + ring[:at]
                self.assertEqual(Handing(again).rings, (ring,))
                self.assertEqual(Ring(*again).rings, (ring,))
        self.assertEqual(Ring(*PEOPLE[::-1]).rings, (("ann",) + PEOPLE[:0:-1],))

    def test_rings_with_common_people(self):
        self.assertEqual(Handing(("ann", "bob"), ("bob", "cy")).rings, (("ann", "cy", "bob"),))
        self.assertEqual(Handing(("bob", "cy"), ("ann", "bob")).rings, (("ann", "bob", "cy"),))
        self.assertEqual(Handing(TURN, TURN).rings, (("ann", "bob", "cy"),))
        self.assertEqual(Handing(TURN, TURN, TURN).rings, ())
        self.assertEqual(Handing(("eve", "dan"), ("cy", "ann")).rings, (("ann", "cy"), ("dan", "eve")))
        self.assertEqual(Handing(("ann", "bob"), ("bob", "ann")).rings, ())
        for one in all_rings(PEOPLE[:4], (2, 3, 4)):
            for other in all_rings(PEOPLE[:4], (2, 3, 4)):
                of_rings(one, other).check(self, Handing(one, other))
                of_rings(other, one, other).check(self, Handing(other, one, other))

    def test_many_rings(self):
        chance = random.Random(2)
        rings = [tuple(chance.sample(PEOPLE, chance.randint(2, 8))) for _ in range(40)]
        of_rings(*rings).check(self, Handing(*rings))

    def test_any_value_as_a_ring(self):
        for thing in ANY:
            if not is_round(thing):
                self.refuse(Handing, thing, "shape", thing)
                self.refuse(Handing, thing, "shape", ("ann", "bob"), thing, None)
                self.refuse(Handing, thing, "shape", NINE, thing, ())
            else:
                self.assertEqual(Handing(thing).people, tuple(sorted(thing)))

    def test_any_value_as_a_person(self):
        for thing in ANY:
            if not (is_round((thing, "zoe")) or thing == "zoe"):
                self.refuse(Ring, (thing, "zoe"), "shape", thing, "zoe")
                self.refuse(Ring, ("zoe", "ann", thing), "shape", "zoe", "ann", thing)
                self.refuse(Swap, ("zoe", thing), "shape", "zoe", thing)
                self.refuse(Swap, (thing, "zoe"), "shape", thing, "zoe")

    def test_too_few_and_the_same_people(self):
        for people in ((), ("ann",), ("ann", "ann"), ("ann", "bob", "ann"), ("ann", "bob", "cy", "bob"), (TURN,)):
            self.refuse(Ring, people, "shape", *people)
            self.refuse(Handing, people, "shape", people)
        self.refuse(Swap, ("ann", "ann"), "shape", "ann", "ann")

    def test_many(self):
        self.assertEqual(Handing.MOST, 8)
        self.assertEqual([one.MOST for one in CLASSES], [8] * 5)
        for people in (PEOPLE, PEOPLE[::-1]):
            self.assertEqual(len(Ring(*people)), 8)
            self.assertEqual(len(Handing(people, ("ida", "jo"))), 10)
        for people in (NINE, NINE[::-1], TEN):
            self.refuse(Ring, people, "many", *people)
            self.refuse(Handing, people, "many", people)
            self.refuse(Handing, people, "many", TURN, people, TEN)
        self.refuse(Handing, TEN, "many", TEN, NINE)

    def test_shape_comes_ahead_of_many(self):
        self.refuse(Handing, ("ann",), "shape", NINE, ("ann",))
        self.refuse(Handing, None, "shape", NINE, TURN, None, TEN, True)
        self.refuse(Ring, NINE + ("ann",), "shape", *NINE, "ann")
        self.refuse(Handing, [NINE], "shape", NINE, [NINE])

    def test_errors_keep_the_very_object(self):
        ring = ["ann", "bob"]
        with self.assertRaises(InvalidTrade) as caught:
            Handing(TURN, ring)
        self.assertIs(caught.exception.ring, ring)
        thing = (None, [])
        with self.assertRaises(InvalidTrade) as caught:
            Row(Still(), thing)
        self.assertIs(caught.exception.ring, thing)

    def test_any_value_as_a_part_of_a_row(self):
        market = Market(MORE, FIRST)
        for thing in ANY + (market, Desk(), Handing, Ring, 3):
            self.refuse(Row, thing, "shape", thing)
            self.refuse(Row, thing, "shape", Still(), Swap("ann", "bob"), thing, None)

    def test_calls_by_name(self):
        self.assertEqual(Swap(one="cy", other="ann").rings, (("ann", "cy"),))
        with self.assertRaises(TypeError):
            Still("ann")
        with self.assertRaises(TypeError):
            Swap("ann", "bob", "cy")

    def test_arguments_stay(self):
        rings = [("cy", "bob", "ann"), ("ann", "bob")]
        handing = Handing(*rings)
        rings.clear()
        self.assertEqual(handing.rings, (("ann", "cy"),))


class ChangeTests(unittest.TestCase):
    def test_handings_never_change(self):
        for handing, told in some_handings(seed=2, many=30):
            for name in ("rings", "people", "effort", "parity", "detour"):
                with self.assertRaises(AttributeError):
                    setattr(handing, name, ())
            other = Ring("ann", "hal", "bob")
            for result in (handing * other, other * handing, -handing, handing ** 3, list(handing.powers()),
                           Row(handing, other), handing(tuple((name, name) for name in TEN)), str(handing)):
                self.assertIsNotNone(result)
            told.check(self, handing)

    def test_in_place_signs_bind_the_name_to_another_one(self):
        turn = once = Ring(*TURN)
        turn *= turn
        self.assertEqual((turn.rings, once.rings), ((("ann", "bob", "cy"),), (TURN,)))
        turn **= 2
        self.assertEqual((turn.rings, once.rings), ((TURN,), (TURN,)))


class OperatorTests(unittest.TestCase):
    def test_example(self):
        turn = Ring(*TURN)
        self.assertEqual([turn(FIRST) == LAST, turn["ann"], turn ** 3 == Still(), (-turn).rings],
                         [True, "cy", True, (("ann", "bob", "cy"),)])

    def test_products(self):
        some = some_handings(seed=3, many=25)
        for one, one_told in some:
            for other, other_told in some:
                found = one * other
                self.assertIs(type(found), Handing)
                product(one_told, other_told).check(self, found)

    def test_first_the_left_one(self):
        found = Swap("ann", "bob") * Swap("bob", "cy")
        self.assertEqual(found(FIRST), Swap("bob", "cy")(Swap("ann", "bob")(FIRST)))
        self.assertEqual(found["ann"], "cy")

    def test_reverses(self):
        for handing, told in some_handings(seed=4, many=100):
            self.assertIs(type(-handing), Handing)
            back(told).check(self, -handing)
            self.assertFalse(handing * -handing)
            self.assertFalse(-handing * handing)
            self.assertEqual(-(-handing), handing)

    def test_powers_by_a_number(self):
        for handing, told in some_handings(seed=5, many=40):
            by_hand = Told({})
            for times in range(12):
                found = handing ** times
                self.assertIs(type(found), Handing)
                by_hand.check(self, found)
                by_hand = product(by_hand, told)
            self.assertEqual(handing ** 0, Still())
            self.assertEqual(handing ** 1, handing)
            for times in (HUGE, HUGE + 1, 10 ** 60 - 1, 840):
                often(told, times).check(self, handing ** times)

    def test_what_the_product_with_other_values_is_not(self):
        for thing in (3, None, TURN, "ann>bob", (TURN,)):
            with self.assertRaises(TypeError):
                Still() * thing
        for thing in (-1, True, None, "2", Still()):
            with self.assertRaises(TypeError):
                Ring(*TURN) ** thing

    def test_products_of_more_people(self):
        found = Ring(*PEOPLE) * Swap("hal", "ida") * Ring("jo", "kim", "lou")
        rings = (PEOPLE, ("hal", "ida"), ("jo", "kim", "lou"))
        of_rings(*rings).check(self, found)
        self.assertEqual(len(found), 12)
        for handing in (-found, found ** 2, found * found, next(found.powers()), Row(found, Still())):
            self.assertEqual(len(handing), 12)
        large = Still()
        for at in range(20):
            large = large * Swap("a" + "abcdefghijklmnopqrst"[at], "b" + "abcdefghijklmnopqrst"[at])
        self.assertEqual((len(large), large.effort, len(large.rings)), (40, 20, 20))
        self.assertEqual(len(large * Ring("aa", "ab", "ac")), 40)

    def test_equality(self):
        some = some_handings(seed=6, many=50, depth=2, names=PEOPLE[:3])
        equal = 0
        for one, one_told in some:
            for other, other_told in some:
                self.assertIs(one == other, one_told.gets == other_told.gets)
                self.assertIs(one != other, one_told.gets != other_told.gets)
                equal += type(one) is not type(other) and one == other
        self.assertGreater(equal, 100)
        self.assertEqual(Handing(("ann", "bob")), Swap("bob", "ann"))
        self.assertEqual(Row(Swap("ann", "bob"), Swap("ann", "bob")), Still())

    def test_equal_to_no_other_value(self):
        things = ANY + (Market(MORE, FIRST), Desk(), Handing, (TURN,), "ann>cy>bob", TURN, {}, object())
        for handing in (Still(), Ring(*TURN), Row(), Handing(), Swap("ann", "bob")):
            for thing in things:
                self.assertIs(handing == thing, False)
                self.assertIs(thing == handing, False)
                self.assertIs(handing != thing, True)
                self.assertIs(thing != handing, True)
                self.assertIs(handing in [thing], False)

    def test_order(self):
        some = some_handings(seed=7, many=50) + some_handings(seed=8, many=30, depth=2, names=PEOPLE[:3])
        for one, one_told in some:
            for other, other_told in some:
                this, that = one_told.key(), other_told.key()
                self.assertEqual([one < other, one <= other, one > other, one >= other],
                                 [this < that, this <= that, this > that, this >= that])
        keys = [told.key() for handing, told in sorted(some, key=lambda pair: pair[0])]
        self.assertEqual(keys, sorted(keys))

    def test_fewer_people_come_first(self):
        self.assertLess(Swap("yan", "zoe"), Ring("ann", "bob", "cy"))
        self.assertLess(Still(), Swap("ann", "bob"))
        self.assertLess(Ring("ann", "bob", "cy", "dan"), Ring("ann", "bob", "dan", "cy"))
        self.assertLess(Handing(("ann", "bob"), ("cy", "dan")), Ring("ann", "bob", "cy", "dan"))
        self.assertLessEqual(Row(), Still())
        self.assertFalse(Row() < Still())
        for thing in (1, None, TURN, (2, (TURN,))):
            with self.assertRaises(TypeError):
                Still() < thing
            with self.assertRaises(TypeError):
                Still() <= thing

    def test_any_name(self):
        handing = Handing(("ann", "bob"))
        for name in ("zoe", "a", "abcdefgh", "bed"):
            self.assertEqual((handing[name], name in handing), (name, False))
        for name in ("ann", "bob"):
            self.assertIs(name in handing, True)

    def test_no_iteration(self):
        for handing in (Still(), Ring(*TURN)):
            with self.assertRaises(TypeError):
                list(handing)

    def test_nobody_moves(self):
        turn = Ring(*TURN)
        swap = Swap("ann", "bob")
        for handing in (Still(), Handing(), Row(), Row(Still()), turn * -turn, turn ** 0, turn ** 3, swap * swap,
                        Handing(("ann", "bob"), ("ann", "bob")), -Still(), Still() ** 5, Still() * Row()):
            self.assertEqual((str(handing), bool(handing), len(handing)), ("-", False, 0))
            self.assertEqual((handing.rings, handing.people, handing.effort, handing.parity), ((), (), 0, 0))
            self.assertEqual(handing(FIRST), FIRST)
            self.assertEqual(list(handing.powers()), [Still()])
            self.assertEqual((handing["ann"], "ann" in handing), ("ann", False))
        row = Row(swap, swap)
        self.assertEqual((bool(row), len(row), list(row.powers()), row(FIRST)), (False, 0, [Still()], FIRST))


class CallTests(unittest.TestCase):
    def test_holdings(self):
        for accepts in all_accepts() + [full(4)]:
            people = sorted(dict(accepts))
            for holding in all_holdings(accepts)[:6]:
                for ring in all_rings(people, (2, 3, 4)):
                    expected = tuple(sorted(handed(holding, ring).items()))
                    for handing in (Ring(*ring), Handing(ring[1:] + ring[:1]), Row(Still(), Ring(*ring))):
                        self.assertEqual(asked(self, handing, {"holding": holding}), returns(expected))

    def test_several_rings(self):
        for handing, told in some_handings(seed=9, many=150):
            if set(told.gets) <= set(PEOPLE):
                for holding in (plain(8), turned(8)):
                    items = dict(holding)
                    expected = {told.gets.get(person, person): items[person] for person in items}
                    self.assertEqual(handing(holding), tuple(sorted(expected.items())))

    def test_whether_the_items_are_accepted_is_not_checked(self):
        self.assertEqual(Swap("ann", "bob")(FIRST), (("ann", "cot"), ("bob", "bed"), ("cy", "den")))

    def test_some_people_rest(self):
        self.assertEqual(Swap("cy", "ann")(FIRST), (("ann", "den"), ("bob", "cot"), ("cy", "bed")))
        self.assertEqual(Handing(("ann", "bob"), ("bob", "ann"))(FIRST), FIRST)
        self.assertEqual(Row(Swap("zoe", "yan"), Swap("zoe", "yan"))(FIRST), FIRST)

    def test_unknown_person(self):
        for handing, person in (
            (Swap("zoe", "ann"), "zoe"), (Swap("zoe", "yan"), "yan"), (Ring("ann", "bob", "dan"), "dan"),
            (Handing(("zoe", "yan"), ("ann", "xi")), "xi"), (Ring("zoe", "aa", "cy"), "aa"),
            (Row(Swap("ann", "eve"), Swap("ann", "dan")), "dan"), (Swap("bed", "cot"), "bed"),
        ):
            self.assertEqual(asked(self, handing, {"holding": FIRST}), raises(UnknownPerson, person))
        for handing, told in some_handings(seed=10, many=100):
            missing = sorted(set(told.gets) - {"ann", "bob", "cy"})
            expected = raises(UnknownPerson, missing[0]) if missing else None
            if expected:
                self.assertEqual(answer(handing, FIRST), expected)

    def test_who_rests_need_not_hold_anything(self):
        handing = Swap("ann", "zoe") * Swap("ann", "zoe") * Swap("ann", "bob")
        self.assertEqual(handing(FIRST), Swap("ann", "bob")(FIRST))


class PowersTests(unittest.TestCase):
    def test_by_hand(self):
        for handing, told in some_handings(seed=11, many=80):
            found = list(handing.powers())
            by_hand = product(told, Told({}))
            for power in found:
                self.assertIs(type(power), Handing)
                by_hand.check(self, power)
                by_hand = product(by_hand, told)
            self.assertEqual([bool(power) for power in found], [True] * (len(found) - 1) + [False])

    def test_how_many(self):
        self.assertEqual(len(list(Still().powers())), 1)
        self.assertEqual(len(list(Swap("ann", "bob").powers())), 2)
        self.assertEqual(len(list(Ring(*PEOPLE).powers())), 8)
        self.assertEqual(len(list(Handing(("a", "b"), ("c", "d", "e"), ("f", "g", "h", "i", "j")).powers())), 30)

    def test_one_by_one_and_side_by_side(self):
        turn = Ring(*PEOPLE)
        one, other = turn.powers(), turn.powers()
        self.assertIsInstance(one, types.GeneratorType)
        self.assertEqual(next(one), turn)
        self.assertEqual(next(one), turn * turn)
        self.assertEqual(next(other), turn)
        self.assertEqual(len(list(one)), 6)
        self.assertEqual(len(list(other)), 7)
        many = Ring("a", "b", "c", "d", "e", "f", "g") * Ring("h", "i", "j", "k", "l", "m", "n", "o")
        for name in ("ab", "cd", "efg", "hijkl"):
            ring = tuple("z" + letter + name for letter in "abcdefgh"[:len(name) + 3])
            many = many * Ring(*ring)
        self.assertEqual(next(many.powers()), many)


class BetweenTests(unittest.TestCase):
    def test_holdings(self):
        for accepts in all_accepts():
            holdings = all_holdings(accepts)
            for begin in holdings[:5]:
                for goal in holdings:
                    found = Handing.between(begin, goal)
                    self.assertIs(type(found), Handing)
                    self.assertEqual(found(begin), goal)
                    self.assertEqual(found.rings, rings_between(begin, goal))
                    self.assertEqual(Handing.between(begin=goal, goal=begin), -found)

    def test_by_hand(self):
        self.assertEqual(Handing.between(FIRST, LAST), Ring(*TURN))
        self.assertEqual(Handing.between(FIRST, FIRST), Still())
        self.assertEqual(Handing.between(plain(8), turned(8)).rings, (("ann",) + PEOPLE[:0:-1],))
        self.assertEqual(Handing().between(FIRST, LAST), Ring(*TURN))

    def test_nine_people(self):
        begin = tuple((name, name) for name in NINE)
        goal = tuple((name, NINE[at - 1]) for at, name in enumerate(NINE))
        self.assertEqual(Handing.between(begin, goal).rings, (NINE,))


class ReadTests(unittest.TestCase):
    def refuse(self, made, text, field):
        self.assertEqual(asked(self, made.read, {"text": text}), raises(InvalidText, 0, field), repr(text))

    def test_there_and_back(self):
        for handing, told in some_handings(seed=12, many=100):
            if max(map(len, told.rings), default=0) <= 8:
                for made in (Handing, Row, Long):
                    found = made.read(str(handing))
                    self.assertIs(type(found), made)
                    self.assertEqual(found, handing)
                    # The words of a row are its way; a handing that reads them keeps the effect alone.
                    self.assertEqual(str(found), " ".join(told.words if made is not Handing else words_of(told)) or "-")

    def test_rings_begin_with_anybody(self):
        for ring in all_rings(PEOPLE[:4], (2, 3, 4)):
            for at in range(len(ring)):
                text = ">".join(ring[at:] + ring[:at])
                for made in (Ring, Turn, Handing, Row, Long):
                    found = made.read(text)
                    self.assertIs(type(found), made)
                    self.assertEqual((found.rings, str(found)), ((ring,), ">".join(ring)))
                    self.assertEqual(made.read(text=text), found)

    def test_handings_do_the_words_one_after_the_other(self):
        self.assertEqual(Handing.read("ann>bob bob>cy").rings, (("ann", "cy", "bob"),))
        self.assertEqual(str(Handing.read("bob>ann ann>bob")), "-")
        self.assertEqual(Handing.read("cy>bob>ann").effort, 2)

    def test_rows_have_the_words_as_parts(self):
        row = Row.read("bob>ann cy>bob>ann bob>ann")
        self.assertEqual([part.rings for part in row.parts], [(("ann", "bob"),), (TURN,), (("ann", "bob"),)])
        self.assertEqual([type(part) for part in row.parts], [Ring] * 3)
        self.assertEqual((row.effort, str(row)), (4, "ann>bob ann>cy>bob ann>bob"))

    def test_the_lone_stroke(self):
        for made in (Handing, Row, Long):
            found = made.read("-")
            self.assertEqual((type(found), str(found), len(found)), (made, "-", 0))
            for text in ("- -", "- ann>bob", "-\n", " -", "- "):
                self.refuse(made, text, 0)
            self.refuse(made, "ann>bob -", 1)
        self.assertEqual(Row.read("-").parts, ())
        self.refuse(Ring, "-", 0)

    def test_wrong_words(self):
        for word in NO_RING_WORDS:
            for made in (Handing, Row, Turn, Long, Ring):
                if word != "-" or made in (Ring, Turn):
                    self.refuse(made, word, 0)
                self.refuse(made, word + " ann>bob", 0)
                self.refuse(made, "bob>ann " + word, 1)
            for made in (Handing, Row):
                self.refuse(made, "bob>ann ann>cy " + word + " Ann", 2)

    def test_what_ring_read_refuses(self):
        for word in TURNED:
            self.assertEqual(answer(ring_read, word), raises(InvalidText, 0, 0))
            self.assertEqual(Ring.read(word), Ring(*word.split(">")))
            self.assertEqual(answer(row_read, "ann>bob " + word), raises(InvalidText, 0, 1))
            self.assertEqual(len(Row.read(word + " " + word).parts), 2)

    def test_a_word_too_many(self):
        for made in (Ring, Turn):
            for text in ("ann>bob ann>bob", "ann>bob ", "ann>bob  ", "ann>bob x", "bob>ann - -"):
                self.refuse(made, text, 1)

    def test_spaces_and_the_empty_string(self):
        for made in (Handing, Ring, Row):
            for text in ("", " ", "  ", " ann>bob"):
                self.refuse(made, text, 0)
        for made in (Handing, Row):
            self.refuse(made, "ann>bob ", 1)
            self.refuse(made, "ann>bob  bob>cy", 1)

    def test_many(self):
        nine, ten = ">".join(NINE[::-1]), ">".join(TEN)
        for made in (Handing, Ring, Row, Turn, Long):
            self.assertEqual(answer(made.read, nine), raises(InvalidTrade, NINE[::-1], "many"))
            self.assertEqual(len(made.read(">".join(PEOPLE))), 8)
        for made in (Handing, Row):
            self.assertEqual(answer(made.read, "ann>bob " + ten + " " + nine), raises(InvalidTrade, TEN, "many"))
            self.refuse(made, ten + " bob>bob", 1)
        self.refuse(Ring, ten + " bob>ann", 1)


class RowTests(unittest.TestCase):
    def test_example(self):
        row = Row(Swap("ann", "cy"), Still(), Swap("ann", "cy"))
        self.assertEqual([row.effort, row.detour, bool(row), str(row)], [2, 2, False, "ann>cy ann>cy"])

    def test_parts_are_the_given_ones(self):
        given = (Swap("ann", "cy"), Still(), Row(Ring(*TURN)), Handing(TURN, ("dan", "eve")))
        row = Row(*given)
        self.assertIs(type(row.parts), tuple)
        self.assertEqual(len(row.parts), 4)
        self.assertTrue(all(part is one for part, one in zip(row.parts, given)))
        with self.assertRaises(AttributeError):
            row.parts = ()
        self.assertEqual(Row().parts, ())

    def test_one_after_the_other(self):
        chance = random.Random(3)
        for _ in range(150):
            some = [chosen(chance, PEOPLE[:5], 2) for _ in range(chance.randrange(6))]
            row = Row(*[handing for handing, told in some])
            of_row(*[told for handing, told in some]).check(self, row)
            by_hand = Still()
            for handing, told in some:
                by_hand = by_hand * handing
            self.assertEqual(row, by_hand)

    def test_rows_of_rows(self):
        swap = Swap("ann", "bob")
        inner = Row(swap, swap)
        row = Row(inner, Still(), Row(), Row(inner, Row(swap)), swap * swap)
        self.assertEqual((row.effort, row.detour, row.parity), (5, 4, 1))
        self.assertEqual(str(row), " ".join(["ann>bob"] * 5))
        self.assertEqual(row.rings, (("ann", "bob"),))
        self.assertEqual(Row(Row(), Row(Still())).effort, 0)
        self.assertEqual(str(Row(Row(), Row(Still()))), "-")

    def test_parts_that_move_nobody(self):
        turn = Ring(*TURN)
        row = Row(Still(), turn, turn * -turn, Row(turn, -turn), turn ** 3, Handing(TURN, TURN, TURN))
        self.assertEqual(str(row), "ann>cy>bob ann>cy>bob ann>bob>cy")
        self.assertEqual((row.effort, row.detour, row.parity), (6, 4, 0))

    def test_a_product_has_no_way(self):
        row = Row(Swap("ann", "bob"), Swap("ann", "bob"))
        for found in (row * Still(), -row, row ** 1, next(row.powers())):
            self.assertEqual((type(found), found.effort, found.detour, str(found)), (Handing, 0, 0, "-"))

    def test_many_words(self):
        row = Row(*[Swap("ann", "bob")] * 401)
        self.assertEqual((row.effort, row.detour, len(row)), (401, 400, 2))


class ConsequenceTests(unittest.TestCase):
    def test_parities_efforts_and_detours(self):
        some = [handing for handing, told in some_handings(seed=13, many=60)]
        for one in some:
            self.assertEqual(one.detour % 2, 0)
            self.assertGreaterEqual(one.detour, 0)
            for other in some:
                self.assertIs((one * other).parity == 0, one.parity == other.parity)
                self.assertLessEqual((one * other).effort, one.effort + other.effort)

    def test_holdings_that_trades_lead_to(self):
        for accepts in (THREE, MORE, full(4)):
            for begin in all_holdings(accepts)[:3]:
                for goal in all_holdings(accepts):
                    found = Handing.between(begin, goal)
                    self.assertEqual(found, Row(*[Ring(*ring) for ring in found.rings]))
                    self.assertEqual(cycles({name: found[name] for name in found.people}), found.rings)
                    for ring in found.rings:
                        self.assertEqual([found[name] for name in ring], [one_ring(ring)[name] for name in ring])
