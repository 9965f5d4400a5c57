"""[8.1]: makers frozen as text, sign by sign, and thawed; pins; what is refused changes nothing."""

import random
import re
import unittest

from byrows import alive_rows
from chance import chance_book
from frozenmakers.books import BUSY, DEEP, MODULUS
from frozenmakers.errors import NoMaker, NoText, NoThaw, NoWay, NoWorth, Pinned, Shared
from frozenmakers.frozen import freeze, pin, thaw, unpin
from frozenmakers.machine import House
from frozenmakers.making import made
from frozenmakers.tables import Table
from handing import Houses
from samples import Same, Wild, book, done, refused, things

WHOLE = book("""
    maker f a b; give x a; say b; give y x; say y; end
    maker keep m; give x m; all y m; return y; end
    maker two m n; give x 1; say m; say n; end
    maker last m; try; return m; finally; give x 1; end; end
    maker g; try; give x 5; give x x; catch e; give x e; end; return 44; end
    maker dead a b; return b; end
""")


def maker(number):
    return ("maker", number)


def house(*begins, whole=WHOLE, asked=()):
    """A house with a maker of each name and things, of which some are asked."""
    one = House(whole)
    for name, *worths in begins:
        one.begin(name, worths)
    for k in asked:
        one.ask(k)
    return one


def rows(*texts):
    return "".join(text + "\n" for text in texts)


def whole_of(one, numbers):
    """All that a house tells of some makers and of itself."""
    found = [(one.state(k), one.place(k), one.boxes(k), one.held(k)) for k in numbers]
    return [found, one.said(), one.log(), len(one)]


def no_numbers(*numbers):
    found = [0, -1, 99, True, 1.0, "1", None, maker(1), [1], (1,), Same(), Wild(), b"1", 10 ** 30] + things()
    return [each for each in found if type(each) is not int or each not in numbers]


class Texts(unittest.TestCase):
    def text(self, one, k, *texts):
        """What is frozen is this text; and thawed and frozen again it is the same."""
        text = rows(*texts)
        self.assertEqual(text, freeze(one, k))
        for other in (one, House(WHOLE)):
            numbers = thaw(other, text)
            self.assertEqual(text, freeze(other, numbers[0]))

    def test_new_ones(self):
        self.text(house(("f", 7, 8)), 1, "frozen 1", "maker f new", "thing 7", "thing 8")
        self.text(house(("f", None, 0)), 1, "frozen 1", "maker f new", "thing none", "thing 0")
        self.text(house(("f", DEEP, MODULUS - 1)), 1, "frozen 1", "maker f new", f"thing {DEEP}", "thing 1000002")
        self.text(house(("g",)), 1, "frozen 1", "maker g new")
        # What isn't alive is told as none.
        self.text(house(("dead", 7, 8)), 1, "frozen 1", "maker dead new", "thing none", "thing 8")
        self.text(house(("g",), ("dead", maker(1), 8)), 2, "frozen 1", "maker dead new", "thing none", "thing 8")

    def test_standing_ones(self):
        self.text(house(("f", 7, 8), asked=[1]), 1, "frozen 1", "maker f 0", "box b 8")
        one = house(("f", 7, None), asked=[1])
        one.ask(1, 9)
        self.text(one, 1, "frozen 1", "maker f 2")
        self.text(house(("g",), asked=[1]), 1, "frozen 1", "maker g 0")

    def test_those_that_are_over(self):
        one = house(("f", 7, 8), ("g",))
        done(one, ("close", 1), ("toss", 2, 1))
        self.text(one, 1, "frozen 1", "maker f over")
        self.text(one, 2, "frozen 1", "maker g over")

    def test_at_an_all(self):
        one = house(("g",), ("keep", maker(1)), asked=[2, 2])
        self.text(one, 2, "frozen 2", "maker keep 1", "inner @1", "maker g 0")

    def test_boxes_rise(self):
        texts = ["zz", "a", "p01", "b", "0", "a1"]
        table = Table("f", (), [("give", "x", ("number", 1), 1)] + [
            ("say", ("box", name), at + 2) for at, name in enumerate(texts)] + [("end",)])
        one = House(book("maker f; end"), tables={"f": table})
        one.begin("f")
        one.ask(1)
        text = rows("frozen 1", "maker f 0", *[f"box {name} none" for name in sorted(texts)])
        self.assertEqual(text, freeze(one, 1))
        self.assertEqual([2], thaw(one, text))
        self.assertEqual(dict.fromkeys(texts), one.boxes(2))

    def test_boxes_of_its_own(self):
        one = house(("g",), ("last", maker(1)), asked=[2])
        self.text(one, 2, "frozen 2", "maker last 2", "box p01 @1", "maker g new")

    def test_makers_as_they_are_met_each_once(self):
        one = house(("g",), ("g",), ("two", maker(2), maker(1)), ("two", maker(3), maker(2)), asked=[4])
        self.text(one, 4, "frozen 4", "maker two 0", "box m @1", "box n @2", "maker two new", "thing @2", "thing @3",
                  "maker g new", "maker g new")
        # First those of boxes without figures, then those with, then that of its all; maker by maker.
        table = Table("f", ("m",), [("all", "y", ("box", "m"), 1), ("say", ("box", "b1"), 2), ("say", ("box", "c"), 3),
                                    ("say", ("box", "a"), 4), ("say", ("box", "0"), 5), ("end",)], lands={0: (0, "q")})
        ahead = [("make", name, "g", (), at + 1) for at, name in enumerate(["b1", "c", "a", "0"])]
        moved = [(*row[:-1], row[-1] + 4) if type(row[-1]) is int else row for row in table.rows]
        whole = book("maker f m; end; maker g; give x 1; end")
        one = House(whole, tables={"f": Table("f", ("m",), ahead + moved), "g": made(whole.functions[1])})
        one.begin("g")
        one.begin("f", [maker(1)])
        one.ask(2)
        self.assertEqual([5, 4, 6, 3, 1], one.held(2))
        self.assertEqual(rows("frozen 6", "maker f 4", "box 0 @3", "box a @1", "box b1 @4", "box c @2", "inner @5", "maker g new",
                              "maker g new", "maker g new", "maker g new", "maker g 0"), freeze(one, 2))

    def test_makers_that_hold_themselves_and_one_another(self):
        one = house(("two", None, None), whole=book("maker two m n; give m m; give n n; give x n; say m; say n; end"))
        done(one, ("ask", 1), ("ask", 1, maker(1)))
        k = one.begin("two", [maker(1), 4])
        done(one, ("ask", 1, maker(k)))
        text = rows("frozen 2", "maker two 2", "box m @0", "box n @1", "maker two new", "thing @0", "thing 4")
        self.assertEqual(text, freeze(one, 1))
        self.assertEqual([3, 4], thaw(one, text))
        self.assertEqual([[3, 4], [3]], [one.held(3), one.held(4)])
        # From the other one on they are met in another order, and are the same makers.
        other = rows("frozen 2", "maker two new", "thing @1", "thing 4", "maker two 2", "box m @1", "box n @0")
        self.assertEqual(other, freeze(one, 4))
        thaw(one, other)
        self.assertEqual(text, freeze(one, 6))

    def test_they_are_in_the_house_no_more(self):
        one = house(("g",), ("keep", maker(1)), ("g",), asked=[2, 2])
        freeze(one, 2)
        self.assertEqual(1, len(one))
        for k in (1, 2):
            for call in (one.state, one.ask, one.close, one.place, one.boxes, one.held):
                refused(self, NoMaker, lambda: call(k), number=k)
            for call in (freeze, pin, unpin):
                refused(self, NoMaker, lambda: call(one, k), number=k)
            refused(self, NoMaker, lambda: one.toss(k, 1), number=k)
            refused(self, NoWorth, lambda: one.ask(3, maker(k)))
        self.assertEqual("new", one.state(3))
        # No number is told twice.
        self.assertEqual([4, 2], [one.begin("g"), len(one)])
        freeze(one, 4)
        freeze(one, 3)
        self.assertEqual([0, 5, 1], [len(one), one.begin("g"), len(one)])
        self.assertEqual([6], thaw(one, rows("frozen 1", "maker g new")))
        self.assertEqual(7, one.begin("keep", [None]))

    def test_makers_made_later_have_numbers_of_their_own(self):
        one = house(whole=book("maker f; make m g; give x m; end; maker g; end"))
        one.begin("f")
        freeze(one, 1)
        one.begin("f")
        self.assertEqual(("gave", maker(3)), one.ask(2))
        freeze(one, 2)
        self.assertEqual(1, len(one))
        freeze(one, 3)
        self.assertEqual([4, ("gave", maker(5))], [one.begin("f"), one.ask(4)])

    def test_what_was_said_stays(self):
        one = house(("f", 7, 8), asked=[1, 1])
        freeze(one, 1)
        self.assertEqual([(1, 8)], one.said())


class Refusals(unittest.TestCase):
    def setUp(self):
        # 5 holds 4 and 2; 4 holds 1 and 2; 3 is held by none.
        self.house = house(("g",), ("g",), ("g",), ("two", maker(1), maker(2)), ("two", maker(4), maker(2)), asked=[4])

    def refused(self, what, k, **fields):
        ahead = whole_of(self.house, range(1, 6))
        refused(self, what, lambda: freeze(self.house, k), **fields)
        self.assertEqual(ahead, whole_of(self.house, range(1, 6)))

    def test_no_maker(self):
        for k in no_numbers(1, 2, 3, 4, 5):
            self.refused(NoMaker, k, number=k)
            refused(self, NoMaker, lambda: pin(self.house, k), number=k)
            refused(self, NoMaker, lambda: unpin(self.house, k), number=k)
        self.assertEqual(0, len([row for row in self.house.log() if row[0] in ("pin", "unpin", "freeze")]))

    def test_held_by_one_that_is_not_among_these(self):
        self.refused(Shared, 1, number=1)
        self.refused(Shared, 2, number=2)
        # 4 is held by 5, and so is 2; the first that is met comes.
        self.refused(Shared, 4, number=4)
        self.assertEqual("frozen 4", freeze(self.house, 5).split("\n")[0])
        freeze(self.house, 3)
        self.assertEqual(0, len(self.house))

    def test_one_that_is_over_holds_none(self):
        self.house.close(5)
        self.refused(Shared, 2, number=2)
        self.assertEqual(rows("frozen 3", "maker two 0", "box m @1", "box n @2", "maker g new", "maker g new"), freeze(self.house, 4))

    def test_one_holds_what_is_alive_alone(self):
        one = house(("g",), ("two", maker(1), None), asked=[2, 2])
        self.assertEqual("over", one.state(2))
        self.assertEqual(rows("frozen 1", "maker g new"), freeze(one, 1))
        one = house(("g",), ("dead", maker(1), 3))
        self.assertEqual(rows("frozen 1", "maker g new"), freeze(one, 1))
        one = house(("g",), ("dead", 3, maker(1)))
        refused(self, Shared, lambda: freeze(one, 1), number=1)

    def test_held_by_an_all(self):
        one = house(("g",), ("keep", maker(1)), asked=[2, 2])
        refused(self, Shared, lambda: freeze(one, 1), number=1)
        self.assertEqual([1], one.held(2))
        one.close(2)
        freeze(one, 1)

    def test_pinned_ones(self):
        pin(self.house, 3)
        self.refused(Pinned, 3, number=3)
        self.assertEqual(("gave", 5), self.house.ask(3))
        pin(self.house, 1)
        # 1 is pinned and shared: of one Pinned goes ahead.
        self.refused(Pinned, 1, number=1)
        self.refused(Pinned, 5, number=1)
        # 4 is met ahead of 1.
        self.refused(Shared, 4, number=4)
        pin(self.house, 4)
        self.refused(Pinned, 5, number=4)
        unpin(self.house, 4)
        pin(self.house, 5)
        self.refused(Pinned, 5, number=5)
        for k in (1, 5, 3):
            unpin(self.house, k)
        freeze(self.house, 5)
        freeze(self.house, 3)

    def test_the_first_as_they_are_met(self):
        # Of 6, met are 6, 2, 1: 2 is held by 4 and 5; 1 is pinned.
        self.house.begin("two", [maker(2), maker(1)])
        pin(self.house, 1)
        refused(self, Shared, lambda: freeze(self.house, 6), number=2)
        self.house.begin("two", [maker(1), maker(2)])
        refused(self, Pinned, lambda: freeze(self.house, 7), number=1)
        unpin(self.house, 1)
        refused(self, Shared, lambda: freeze(self.house, 7), number=1)

    def test_one_that_holds_itself_and_makers_that_hold_one_another(self):
        one = house(("keep", None), ("keep", maker(1)), whole=book("maker keep m; give m m; give x m; say m; end"))
        done(one, ("ask", 1), ("ask", 1, maker(2)))
        self.assertEqual([[2], [1]], [one.held(1), one.held(2)])
        self.assertEqual("frozen 2", freeze(one, 2).split("\n")[0])
        self.assertEqual(0, len(one))

    def test_pin_and_unpin(self):
        one = self.house
        self.assertIsNone(pin(house=one, k=3))
        refused(self, Pinned, lambda: pin(one, 3), number=3)
        self.assertIsNone(unpin(house=one, k=3))
        refused(self, NoWay, lambda: unpin(one, 3))
        refused(self, NoWay, lambda: unpin(one, 2))
        pin(one, 3)
        one.close(3)
        refused(self, Pinned, lambda: pin(one, 3), number=3)
        refused(self, Pinned, lambda: freeze(one, 3), number=3)
        self.assertEqual([("pin", 3), ("unpin", 3), ("pin", 3)], [row for row in one.log() if row[0] in ("pin", "unpin")])
        other = house(("g",), ("g",), ("g",))
        refused(self, NoWay, lambda: unpin(other, 3))
        unpin(one, 3)
        self.assertEqual(rows("frozen 1", "maker g over"), freeze(k=3, house=one))


class Thawed(unittest.TestCase):
    def test_the_new_numbers_in_order(self):
        text = rows("frozen 3", "maker g new", "maker f over", "maker g 0")
        one = House(WHOLE)
        numbers = thaw(one, text)
        self.assertEqual([1, 2, 3], numbers)
        self.assertEqual(["new", "over", "stands"], [one.state(k) for k in numbers])
        numbers.append(9)
        self.assertEqual([4, 5, 6], thaw(house=one, text=text))
        self.assertEqual([6, 7], [len(one), one.begin("g")])
        self.assertEqual([("thaw", text, (1, 2, 3)), ("thaw", text, (4, 5, 6))], one.log()[:2])

    def test_makers_in_any_order_held_by_one_of_them_or_not(self):
        text = rows("frozen 4", "maker g 0", "maker two 0", "box m @3", "box n @0", "maker keep 1", "inner @0", "maker two new",
                    "thing @3", "thing none")
        one = House(WHOLE)
        one.begin("g")
        self.assertEqual([2, 3, 4, 5], thaw(one, text))
        self.assertEqual([[], [5, 2], [2], [5]], [one.held(k) for k in (2, 3, 4, 5)])
        self.assertEqual({"m": maker(5), "n": maker(2)}, one.boxes(3))
        self.assertEqual(("gave", 7), one.ask(4, 7))
        self.assertEqual(("ended", 44), one.ask(2))

    def test_those_that_are_held_twice_are_one(self):
        one = house(("g",), ("two", maker(1), maker(1)), asked=[2])
        text = freeze(one, 2)
        self.assertEqual(rows("frozen 2", "maker two 0", "box m @1", "box n @1", "maker g new"), text)
        self.assertEqual([3, 4], thaw(one, text))
        one.ask(3)
        self.assertEqual([(3, maker(4)), (3, maker(4))], one.said())

    def test_thawed_twice_they_go_on_apart(self):
        one = house(("g",), ("keep", maker(1)), asked=[2, 2])
        text = freeze(one, 2)
        other = House(WHOLE)
        self.assertEqual([[3, 4], [5, 6], [1, 2]], [thaw(one, text), thaw(one, text), thaw(other, text)])
        self.assertEqual([("gave", 7), ("ended", 44)], [one.ask(3, 7), one.ask(3, 8)])
        self.assertEqual([("gave", 9), "stands", "stands"], [one.ask(5, 9), one.state(5), one.state(6)])
        self.assertEqual([("gave", 1), "stands"], [other.toss(1, 1), other.state(2)])
        self.assertEqual([("closed",), "over", "over"], [one.close(5), one.state(5), one.state(6)])

    def test_all_worths(self):
        for word, worth in [("0", 0), ("7", 7), ("1000002", 1000002), ("1000006", DEEP), ("none", None), ("@0", maker(1)),
                            ("@1", maker(2))]:
            one = House(WHOLE)
            thaw(one, rows("frozen 2", "maker f new", f"thing {word}", "thing 3", "maker f 0", f"box b {word}"))
            self.assertEqual([{"a": worth, "b": 3}, {"b": worth}], [one.boxes(1), one.boxes(2)])
            done(one, ("ask", 1), ("ask", 2, 1))
            self.assertEqual([(2, worth)], one.said())

    def test_what_a_new_one_reads_goes_on(self):
        one = house(("f", 7, 8))
        text = freeze(one, 1)
        thaw(one, text)
        self.assertEqual([("gave", 7), ("gave", BUSY), ("ended", None)], done(one, ("ask", 2), ("ask", 2, BUSY), ("ask", 2, 4)))
        self.assertEqual([(2, 8), (2, 4)], one.said())

    def test_what_faults_and_closings_do_there(self):
        for deed, told in [(("toss", 9), ("gave", 9)), (("close",), ("closed",)), (("ask", 3), ("gave", 3))]:
            one = house(("g",), asked=[1])
            thaw(one, freeze(one, 1))
            self.assertEqual([told], done(one, (deed[0], 2, *deed[1:])))

    def test_a_text_of_many(self):
        many = 60
        text = rows(f"frozen {many}", *[f"maker two new\nthing @{(at + 1) % many}\nthing {at}" for at in range(many)])
        one = House(WHOLE)
        self.assertEqual(list(range(1, many + 1)), thaw(one, text))
        self.assertEqual(text, freeze(one, 1))
        self.assertEqual(0, len(one))


class NoTexts(unittest.TestCase):
    RIGHT = rows("frozen 4", "maker f new", "thing 7", "thing @1", "maker g over", "maker f 0", "box b none", "maker keep 1", "inner @0")

    def setUp(self):
        self.house = house(("g",), ("two", maker(1), 4), asked=[2])
        self.ahead = whole_of(self.house, [1, 2])

    def tearDown(self):
        self.assertEqual(self.ahead, whole_of(self.house, [1, 2]))
        self.assertEqual([3, 4, 5, 6], thaw(self.house, self.RIGHT))
        self.assertEqual(7, self.house.begin("g"))

    def no_text(self, row, text):
        refused(self, NoText, lambda: thaw(self.house, text), row=row)

    def no_thaw(self, at, *texts):
        refused(self, NoThaw, lambda: thaw(self.house, rows(*texts)), at=at)

    def test_of_anything(self):
        for thing in things() + [["frozen 1"], ("frozen 1\n",), b"frozen 1\nmaker g new\n", {"frozen 1\n": 1}, 1, House, self.house]:
            if type(thing) is not str:
                self.no_text(0, thing)
        for text in ["", "\n", " ", "frozen", "frozen\n", "a", "\n\n", "frozen 1 \n", " frozen 1\n", "maker g new\n"]:
            self.no_text(0, text)

    def test_the_first_row(self):
        for row in ["frozen 0", "frozen 01", "frozen -1", "frozen +1", "frozen 12345678", "frozen 1 1", "frozen none", "frozen @1",
                    "frozen  1", "Frozen 1", "frozen1", "frozen a", "thaw 1", "1", "frozen 1.0", "frozen 1_0"]:
            self.no_text(0, rows(row, "maker g new"))
        self.no_text(1, rows("frozen 1", "frozen 1", "maker g new"))
        for many in ("2", "1000007", "9999999"):
            self.no_text(2, rows("frozen " + many, "maker g new"))

    def test_the_row_of_a_maker(self):
        for row in ["maker", "maker g", "maker  new", "maker g new 1", "maker g New", "maker g old", "maker g -1", "maker g 01", "maker g @1",
                    "maker g none", "maker g 12345678", "maker G new", "maker none new", "maker set 0", "maker abcdefghi new", "maker g1 0",
                    "maker g  new", "maker g new ", " maker g new", "Maker g new", "make g new", "maker g 0 0", "", "end", "new", "maker g 0.0",
                    "thing 1", "box b 1", "inner @0", "say 1", "frozen 1"]:
            self.no_text(1, rows("frozen 1", row))
            self.no_text(2, rows("frozen 2", "maker g over", row, "maker g new"))

    def test_more_makers_than_told(self):
        self.no_text(2, rows("frozen 1", "maker g new", "maker g new"))
        self.no_text(3, rows("frozen 1", "maker f new", "thing 1", "maker g new"))
        self.no_text(3, rows("frozen 1", "maker keep 1", "inner @0", "maker g new"))

    def test_things(self):
        for row in ["thing", "thing ", "thing 1 1", "thing -1", "thing 01", "thing @", "thing @-1", "thing @01", "thing @a", "thing None",
                    "thing 12345678", "thing @12345678", "thing a", "thing  1", "Thing 1", "thing 1 ", "thing @@1", "thing (1 + 1)", "thing @ 1",
                    "box b 1", "inner @0", "inner 1", "thing @none", "things 1", "thing b 1"]:
            self.no_text(2, rows("frozen 1", "maker f new", row, "thing 1"))
            self.no_text(3, rows("frozen 1", "maker f new", "thing 1", row))
        self.no_text(2, rows("frozen 1", "maker f over", "thing 1"))
        self.no_text(2, rows("frozen 1", "maker f 0", "thing 1"))
        self.no_text(3, rows("frozen 1", "maker f 0", "box b 1", "thing 1"))

    def test_boxes(self):
        for row in ["box", "box b", "box b 1 1", "box  1", "box B 1", "box abcdefghi 1", "box b_ 1", "box b -1", "box b 01", "box b @", "box b a",
                    "box b  1", "Box b 1", "box b 1 ", "box 1", "box b 12345678", "box @0 1", "box b (1)", "boxes b 1"]:
            self.no_text(2, rows("frozen 1", "maker f 0", row))
            self.no_text(3, rows("frozen 1", "maker f 0", "box b 1", row))
        self.no_text(2, rows("frozen 1", "maker f new", "box a 1"))
        self.no_text(2, rows("frozen 1", "maker f over", "box a 1"))
        # None stands behind inner.
        self.no_text(3, rows("frozen 1", "maker keep 1", "inner @0", "box b 1"))

    def test_inner_ones(self):
        for row in ["inner", "inner @", "inner @0 1", "inner b @0", "inner  @0", "Inner @0", "inner @0 ", "inner @01", "inner -1", "inner x"]:
            self.no_text(2, rows("frozen 1", "maker keep 1", row))
        self.no_text(3, rows("frozen 1", "maker keep 1", "inner @0", "inner @0"))
        self.no_text(2, rows("frozen 1", "maker keep new", "inner @0"))
        self.no_text(2, rows("frozen 1", "maker keep over", "inner @0"))

    def test_rows_that_lack(self):
        texts = self.RIGHT.split("\n")[:-1]
        for many in range(len(texts)):
            text = rows(*texts[:many])
            # Behind all its makers the words of a row don't tell that there should be more.
            if many < 8:
                self.no_text(many, text)
                self.no_text(many, text[:-1])
            else:
                refused(self, NoThaw, lambda: thaw(self.house, text), at=3)
                self.no_text(many, text[:-1])
        self.no_text(len(texts), self.RIGHT[:-1])
        self.no_text(len(texts), self.RIGHT + "\n")
        self.no_text(len(texts), self.RIGHT + "maker g new\n")
        self.no_text(len(texts), self.RIGHT + "maker g new")
        self.no_text(len(texts), self.RIGHT + " ")

    def test_a_sign_or_a_word_more_or_less(self):
        # Each sign left out or doubled makes another text or none; whatever comes of it, a row is told that is there.
        for at in range(len(self.RIGHT)):
            for text in (self.RIGHT[:at] + self.RIGHT[at + 1:], self.RIGHT[:at] + self.RIGHT[at] + self.RIGHT[at:],
                         self.RIGHT[:at] + "~" + self.RIGHT[at + 1:]):
                row = self.RIGHT[:at].count("\n")
                other = House(WHOLE)
                try:
                    thaw(other, text)
                    self.assertNotIn("~", text)
                except NoText as error:
                    self.assertIn(error.row, range(row, row + 10))
                    self.assertEqual(0, len(other))
                except NoThaw:
                    self.assertNotIn("~", text)
                    self.assertEqual(0, len(other))

    def test_the_first_row_comes_ahead_of_any_maker(self):
        self.no_text(4, rows("frozen 2", "maker nobody new", "maker f 99", "box zz 1000009", "thing 1"))


class NoThaws(NoTexts):
    # Those of the class above once more, and behind them:
    def test_functions(self):
        self.no_thaw(0, "frozen 1", "maker nobody new")
        self.no_thaw(0, "frozen 1", "maker nobody over")
        self.no_thaw(1, "frozen 3", "maker g new", "maker nobody 0", "maker nobody new")

    def test_how_many_things(self):
        for texts in [[], ["thing 1"], ["thing 1"] * 3]:
            self.no_thaw(0, "frozen 1", "maker f new", *texts)
            self.no_thaw(1, "frozen 2", "maker g over", "maker f new", *texts)
        self.no_thaw(0, "frozen 1", "maker g new", "thing none")

    def test_things_that_are_not_alive(self):
        for word in ("0", "7", "@0"):
            self.no_thaw(0, "frozen 1", "maker dead new", f"thing {word}", "thing 8")
        self.no_thaw(0, "frozen 1", "maker dead new", "thing none")

    def test_numbers(self):
        for word in ("1000007", "1000008", "9999999"):
            self.no_thaw(0, "frozen 1", "maker f new", f"thing {word}", "thing 8")
            self.no_thaw(0, "frozen 1", "maker f new", "thing 8", f"thing {word}")
            self.no_thaw(1, "frozen 2", "maker g new", "maker f 0", f"box b {word}")

    def test_makers(self):
        for word in ("@2", "@3", "@1000003", "@9999999"):
            self.no_thaw(0, "frozen 2", "maker f new", f"thing {word}", "thing 8", "maker g new")
            self.no_thaw(1, "frozen 2", "maker g new", "maker f 0", f"box b {word}")
            self.no_thaw(0, "frozen 2", "maker keep 1", f"inner {word}", "maker g new")

    def test_places(self):
        # Of f rows 0 and 2 are gives, of keep row 1 is an all.
        table = made(WHOLE.functions[0])
        for number in [*range(len(table.rows)), len(table.rows), 99, 9999999]:
            if number >= len(table.rows) or table.rows[number][0] not in ("give", "all"):
                self.no_thaw(0, "frozen 1", f"maker f {number}")
                self.no_thaw(0, "frozen 1", f"maker f {number}", "box b 1")
        # Be it with just the boxes that are alive behind that row.
        for name in ("f", "keep", "two"):
            table = made({function.name: function for function in WHOLE.functions}[name])
            for number, row in enumerate(table.rows):
                boxes = [f"box {box} 1" for box in sorted(alive_rows(table)[1][number])]
                if row[0] not in ("give", "all"):
                    self.no_thaw(0, "frozen 1", f"maker {name} {number}", *boxes)
                    self.no_thaw(0, "frozen 1", f"maker {name} {number}", *boxes, "inner @0")

    def test_boxes_kept(self):
        for texts in [[], ["box b 1", "box b 1"], ["box b 1", "box a 1"], ["box a 1", "box b 1"], ["box a 1"], ["box x 1"],
                      ["box b 1", "box none 1"], ["box b 1", "box p01 1"]]:
            self.no_thaw(0, "frozen 1", "maker f 0", *texts)
        for texts in [["box n 1", "box m 1"], ["box m 1"], ["box n 1"], ["box m 1", "box m 1"], ["box m 1", "box n 1", "box n 1"],
                      ["box m 1", "box n 1", "box x 1"], ["box l 1", "box m 1", "box n 1"], ["box m 1", "box mm 1", "box n 1"]]:
            self.no_thaw(1, "frozen 2", "maker g new", "maker two 0", *texts)
        self.no_thaw(0, "frozen 1", "maker g 0", "box x 1")

    def test_an_inner_at_an_all_alone(self):
        self.no_thaw(0, "frozen 1", "maker keep 1")
        self.no_thaw(1, "frozen 3", "maker g 0", "maker keep 1", "maker g new")
        for word in ("0", "1", "none", "1000009"):
            self.no_thaw(0, "frozen 1", "maker keep 1", f"inner {word}")
        self.no_thaw(0, "frozen 1", "maker f 0", "box b 1", "inner @0")
        self.no_thaw(0, "frozen 1", "maker g 0", "inner @0")
        self.no_thaw(0, "frozen 1", "maker g 0", "inner 1")

    def test_an_all_that_passes_on_to_itself(self):
        other = House(WHOLE)
        self.assertEqual([1], thaw(other, rows("frozen 1", "maker keep 1", "inner @0")))
        self.assertEqual([[1], ("raised", BUSY)], [other.held(1), other.ask(1)])

    def test_the_first_maker(self):
        self.no_thaw(1, "frozen 4", "maker g new", "maker f new", "maker f 1", "maker nobody over")

    def test_by_other_tables(self):
        other = House(book("maker f a b; give x 1; give x a; say b; end; maker g; end"))
        refused(self, NoThaw, lambda: thaw(other, rows("frozen 1", "maker f 0", "box b 8")), at=0)
        refused(self, NoThaw, lambda: thaw(other, rows("frozen 2", "maker g new", "maker g 0")), at=1)
        self.assertEqual([1], thaw(other, rows("frozen 1", "maker f 0", "box a 7", "box b 8")))


NUMBER = r"(0|[1-9][0-9]{0,6})"
WORTH = rf"({NUMBER}|none|@{NUMBER})"
NAME = "[a-z]{1,8}"
ROWS = {
    "maker": re.compile(rf"maker ({NAME}) (new|over|{NUMBER})"), "thing": re.compile(rf"thing {WORTH}"),
    "box": re.compile(rf"box ([a-z0-9]{{1,8}}) {WORTH}"), "inner": re.compile(rf"inner {WORTH}"),
}


def no_text_by_patterns(text):
    """The first row that can't stand there, None where all can."""
    texts = text.split("\n")
    lacks = texts.pop() != ""
    if lacks:
        texts = text.split("\n")
    head = re.compile(r"frozen ([1-9][0-9]{0,6})").fullmatch(texts[0]) if texts else None
    if head is None:
        return 0
    stage, left = "head", int(head[1])
    for at, row in enumerate(texts[1:], 1):
        word = next((word for word, pattern in ROWS.items() if pattern.fullmatch(row)), None)
        may = {"head": [], "new": ["thing"], "over": [], "stands": ["box", "inner"], "inner": []}[stage] + (["maker"] if left else [])
        if word not in may:
            return at
        if word == "maker":
            found = ROWS["maker"].fullmatch(row)
            if found[1] == "set":
                return at
            left -= 1
            stage = found[2] if found[2] in ("new", "over") else "stands"
        elif word == "inner":
            stage = "inner"
    return len(texts) if lacks or left else None


class Patterns(unittest.TestCase):
    PARTS = [
        "frozen 1", "frozen 2", "frozen 2", "frozen 3", "frozen 0", "frozen", "maker f new", "maker f 0", "maker g new", "maker g over",
        "maker keep 1", "maker set new", "maker new new", "maker over over", "maker two 0", "thing 1", "thing none", "thing @1", "thing @01",
        "box b 1", "box m @0", "box n none", "box p01 7", "box none 7", "box B 1", "inner @0", "inner 7", "inner @", "", "thing 12345678",
    ]

    def test_texts_of_drawn_rows(self):
        chance = random.Random(5)
        wrong = right = 0
        one = House(WHOLE)
        for _ in range(12000):
            texts = [chance.choice(self.PARTS[:4])] + [chance.choice(self.PARTS[6:]) for _ in range(chance.randrange(5))]
            text = chance.choice(["\n"] * 8 + ["", "\n\n", " \n"]).join(["\n".join(texts), ""])
            ahead = len(one)
            at = no_text_by_patterns(text)
            if at is None:
                right += 1
                try:
                    self.assertEqual(len(thaw(one, text)), len(one) - ahead)
                except NoThaw:
                    self.assertEqual(ahead, len(one))
            else:
                wrong += 1
                refused(self, NoText, lambda: thaw(one, text), row=at)
        self.assertGreater(right, 200)
        self.assertGreater(wrong, 500)

    def test_texts_with_signs_otherwise(self):
        chance = random.Random(6)
        one = House(WHOLE)
        for _ in range(6000):
            text = NoTexts.RIGHT
            for _ in range(chance.choice([1, 1, 2])):
                at = chance.randrange(len(text) + 1)
                text = text[:at] + chance.choice(["", " ", "\n", "0", "1", "a", "@", "n", "A"]) + text[at + chance.randrange(3):]
            ahead = len(one)
            at = no_text_by_patterns(text)
            if at is not None:
                refused(self, NoText, lambda: thaw(one, text), row=at)
                continue
            try:
                self.assertEqual(len(thaw(one, text)), len(one) - ahead)
            except NoThaw:
                self.assertEqual(ahead, len(one))


class Chance(unittest.TestCase):
    def test_makers_that_are_frozen_and_thawed_go_on_as_if_they_had_never_been(self):
        frozen = 0
        for seed in range(250):
            whole = chance_book(seed)
            run = Houses(self, whole, [House(whole) for _ in range(1 + seed % 3)], seed)
            for _ in range(40):
                deed = run.random.choice([run.begin] * 2 + [run.ask] * 6 + [run.freeze_and_hold, run.thaw])
                deed()
            frozen += sum(row[0] == "thaw" and row[1].startswith("frozen 1") is False for one in run.houses for row in one.log())
        self.assertGreater(frozen, 50)


if __name__ == "__main__":
    unittest.main()
