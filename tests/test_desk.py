"""[11.1]: a desk, answering row by row."""

import unittest

from frozenmakers.books import DEEP
from frozenmakers.desk import Desk
from frozenmakers.frozen import freeze
from frozenmakers.logs import judged
from frozenmakers.machine import House
from samples import book

TEXT = """maker f a b
give x a
say b
give y x
say y
return a
end
maker keep m
give x m
all y m
return y
end
maker g
try
give x 5
give x x
catch e
give x e
end
return 44
end
"""
FORMS = [
    "begin f 1 2", "begin g", "begin nobody", "ask 1 none", "ask 1 7", "ask 1 @1", "toss 1 7", "close 1", "said", "state 1", "alive 1",
    "freeze 1", "thaw ", "thaw x", "thaw frozen 1 / maker g new", "check", "ask 0 0", "toss 9999999 9999999", "thaw  ", "thaw thaw thaw",
]
NO_FORMS = [
    "", " ", "books", "Book", "book ", " book", "over", "over ", "end", "maker f", "say 1", "begin", "begin ", "begin F", "begin f ",
    "begin f 1 ", "begin f  1", "begin  f", "begin f -1", "begin f 01", "begin f 12345678", "begin f a", "begin f @", "begin f @01", "begin f @a",
    "begin f None", "begin none", "begin set", "begin f1", "begin abcdefghi", "begin 1", "begin f (1 + 1)", "Begin f", "begin f, 1",
    "ask", "ask 1", "ask 1 ", "ask  1", "ask 1 1 1", "ask 1 2 ", "ask none 1", "ask @1 1", "ask f 1", "ask 01 1", "ask -1 1", "ask 12345678 1",
    "ask 1 12345678", "ask 1 x", "ask 1 @", "ask 1 +1", "ask 1.0 1", " ask 1 1", "ask 1, 1", "Ask 1 1",
    "toss", "toss 1", "toss 1 none", "toss 1 @1", "toss 1 01", "toss 1 1 1", "toss none 1", "toss 1 -1", "toss 1 12345678", "toss @1 1",
    "close", "close ", "close none", "close @1", "close 1 1", "close 1 ", "close 01", "said ", "said 1", " said", "Said",
    "state", "state ", "state f", "state 1 1", "state @1", "state 12345678", "alive", "alive ", "alive f", "alive 1 1", "alive @1",
    "freeze", "freeze ", "freeze f", "freeze 1 1", "freeze @1", "freeze none", "thaw", "Thaw x", "thaws x", " thaw x", "check ", "check 1", "checks",
    "held 1", "boxes 1", "place 1", "pin 1", "unpin 1", "log", "send 1 1", "take", "fall 0", "rise 0", "len", "no row", "refused", "ok", "row",
]


def read(desk, text):
    """Reads a text at the desk; tells all that it answers."""
    return [desk.answer(row) for row in ["book", *text.split("\n")[:-1], "over"]]


class Case(unittest.TestCase):
    def setUp(self):
        self.desk = Desk()
        read(self.desk, TEXT)

    def told(self, *pairs):
        for row, answer in pairs:
            got = self.desk.answer(row)
            self.assertEqual(answer, got, row)
            self.assertIs(str, type(got))


class Books(Case):
    def test_a_text(self):
        self.assertEqual(["ok"] + ["row"] * 21 + ["ok"], read(Desk(), TEXT))
        self.told(("begin g", "1"), ("begin f 1 2", "2"))
        # A new house, though it is of the same book.
        self.assertEqual("ok", read(self.desk, TEXT)[-1])
        self.told(("state 1", "refused NoMaker"), ("begin g", "1"), ("said", "-"), ("check", "ok"))
        self.assertEqual("ok", self.desk.answer(row="book"))

    def test_no_text(self):
        self.told(("begin g", "1"))
        for text, row in [
            ("", 0), ("\n", 0), ("maker\n", 0), ("maker f\n", 1), ("maker f\nend\nend\n", 2), ("maker f\nsay 1\nbreak\nend\n", 2),
            ("said\n", 0), ("maker f\nsaid\nend\n", 1), ("book\n", 0), ("maker f\nend\nbook\n", 2), ("maker f\nend\n\n", 2),
            ("maker f\nend \n", 1), ("maker f\nsay 12345678\nend\n", 1), (" over\n", 0), ("maker f\nover 1\nend\n", 1), ("\n\n", 0),
        ]:
            self.assertEqual(["ok"] + ["row"] * text.count("\n") + [f"no text {row}"], read(self.desk, text))
            # The house ahead stays, with its book.
            self.told(("state 1", "new"), ("check", "ok"), ("begin nobody", "refused NoName"))
        self.told(("begin f 1 2", "2"), ("said", "-"))

    def test_no_book(self):
        self.told(("begin g", "1"))
        for text, at in [
            ("maker f\nend\nmaker f\nend\n", 1), ("maker f a a\nend\n", 0), ("maker f\nmake m g\nend\n", 0),
            ("maker f\nend\nmaker g\nsay 1000003\nend\n", 1), ("".join(f"maker {n}\nend\n" for n in "abcdefg"), 6),
        ]:
            self.assertEqual(f"no book {at}", read(self.desk, text)[-1])
            self.told(("state 1", "new"), ("begin f", "refused NoThings"))

    def test_without_a_house(self):
        for desk in (Desk(), self.without("maker\n"), self.without("maker f a a\nend\n")):
            for row in FORMS:
                self.assertEqual("no house", desk.answer(row))
            for row in NO_FORMS:
                self.assertEqual("no row", desk.answer(row))
            self.assertEqual("ok", read(desk, TEXT)[-1])
            self.assertEqual("1", desk.answer("begin g"))

    def without(self, text):
        desk = Desk()
        self.assertEqual("no ", read(desk, text)[-1][:3])
        return desk

    def test_rows_of_the_text_are_not_looked_at_till_it_is_over(self):
        self.told(("begin g", "1"), ("book", "ok"), ("said", "row"), ("book", "row"), ("", "row"), ("begin g", "row"), ("thaw", "row"),
                  ("over", "no text 0"), ("begin g", "2"), ("over", "no row"))

    def test_desks_are_apart(self):
        other = Desk()
        self.told(("begin g", "1"))
        self.assertEqual(["no house", "ok"], [other.answer("state 1"), other.answer("book")])
        self.told(("state 1", "new"))


class Rows(Case):
    def test_begin_and_numbers(self):
        self.told(("begin g", "1"), ("begin keep @1", "2"), ("begin f 0 none", "3"), ("begin f 1000006 @3", "4"), ("begin g", "5"))

    def test_ask_toss_and_close(self):
        self.told(
            ("begin f 3 @1", "refused NoThings"), ("begin f 3 4", "1"), ("begin f @1 none", "2"), ("ask 1 none", "gave 3"), ("ask 1 7", "gave 7"),
            ("ask 1 @2", "ended 3"), ("ask 1 9", "ended none"), ("ask 2 1", "gave @1"), ("ask 2 none", "gave none"), ("ask 2 1000006", "ended @1"),
            ("begin g", "3"), ("ask 3 0", "gave 5"), ("ask 3 @3", "gave @3"), ("toss 3 8", "gave 8"), ("toss 3 0", "raised 0"),
            ("toss 3 1000006", "raised 1000006"), ("begin g", "4"), ("ask 4 0", "gave 5"), ("close 4", "closed"), ("close 4", "closed"),
            ("said", "1 4, 1 @2, 2 none, 2 1000006"),
        )

    def test_said(self):
        self.told(("said", "-"), ("begin f 3 none", "1"), ("said", "-"), ("ask 1 0", "gave 3"), ("ask 1 0", "gave 0"), ("said", "1 none"),
                  ("ask 1 @1", "ended 3"), ("said", "1 none, 1 @1"))

    def test_state(self):
        self.told(("begin g", "1"), ("state 1", "new"), ("ask 1 0", "gave 5"), ("state 1", "stands"), ("close 1", "closed"), ("state 1", "over"))

    def test_alive(self):
        self.told(("begin f 1 2", "1"), ("alive 1", "a b"), ("ask 1 0", "gave 1"), ("alive 1", "a b"), ("ask 1 9", "gave 9"), ("alive 1", "a"),
                  ("ask 1 9", "ended 1"), ("alive 1", "-"), ("begin g", "2"), ("alive 2", "-"), ("begin keep 1", "3"), ("alive 3", "m"))
        # Boxes that a table has of its own aren't told.
        text = "maker last b a\ntry\nreturn b\nfinally\ngive x 1\nsay a\nend\nend\n"
        self.assertEqual("ok", read(self.desk, text)[-1])
        self.told(("begin last 4 5", "1"), ("alive 1", "a b"), ("ask 1 0", "gave 1"), ("alive 1", "a"), ("ask 1 0", "ended 4"))

    def test_freeze_and_thaw(self):
        self.told(
            ("begin g", "1"), ("begin keep @1", "2"), ("freeze 1", "refused Shared"), ("ask 2 0", "gave @1"), ("ask 2 0", "gave 5"),
            ("freeze 2", "frozen 2 / maker keep 1 / inner @1 / maker g 0"), ("state 1", "refused NoMaker"), ("freeze 2", "refused NoMaker"),
            ("thaw frozen 2 / maker keep 1 / inner @1 / maker g 0", "3 4"), ("ask 3 9", "gave 9"), ("begin f 1 2", "5"),
            ("freeze 5", "frozen 1 / maker f new / thing 1 / thing 2"), ("thaw frozen 1 / maker f new / thing 1 / thing none", "6"),
            ("thaw frozen 1 / maker f over", "7"), ("freeze 7", "frozen 1 / maker f over"), ("state 3", "stands"),
            ("thaw frozen 3 / maker g new / maker g new / maker g 0", "8 9 10"),
        )

    def test_texts_that_are_none(self):
        for text in ["", " ", "x", "frozen", "frozen 1", "frozen 1 /", "frozen 1 / ", "frozen 1 / maker g", "frozen 1 /maker g new", "frozen 0",
                     "frozen 1/ maker g new", "frozen 1 / maker g new / ", "frozen 1 / maker g new /", " frozen 1 / maker g new", "/", " / ",
                     "frozen 1 / maker g new ", "frozen 1 /  / maker g new", "frozen 1  / maker g new", "thaw frozen 1 / maker g new"]:
            self.told(("thaw " + text, "refused NoText"))
        for text in ["frozen 1 / maker nobody new", "frozen 1 / maker f new", "frozen 1 / maker f 99"]:
            self.told(("thaw " + text, "refused NoThaw"))
        self.told(("begin g", "1"))

    def test_check(self):
        self.told(("check", "ok"), ("begin g", "1"), ("ask 1 0", "gave 5"), ("ask 9 0", "refused NoMaker"), ("check", "ok"),
                  ("begin f 1 @1", "2"), ("toss 1 7", "gave 7"), ("check", "ok"),
                  ("freeze 1", "refused Shared"), ("check", "ok"), ("freeze 2", "frozen 2 / maker f new / thing 1 / thing @1 / maker g 1"),
                  ("check", "4"), ("begin g", "3"), ("check", "4"))
        read(self.desk, TEXT)
        self.told(("check", "ok"), ("thaw frozen 1 / maker g new", "1"), ("check", "0"))

    def test_refused(self):
        self.told(
            ("begin nobody", "refused NoName"), ("begin f", "refused NoThings"), ("begin g 1", "refused NoThings"), ("begin keep @1", "refused NoThings"),
            ("begin keep 1000007", "refused NoThings"), ("ask 1 none", "refused NoMaker"), ("ask 0 none", "refused NoMaker"),
            ("ask 9999999 @1", "refused NoMaker"), ("toss 1 7", "refused NoMaker"), ("close 1", "refused NoMaker"), ("state 0", "refused NoMaker"),
            ("alive 1", "refused NoMaker"), ("freeze 1", "refused NoMaker"), ("begin g", "1"), ("ask 1 @2", "refused NoWorth"),
            ("ask 1 @0", "refused NoWorth"), ("ask 1 1000007", "refused NoWorth"), ("toss 1 1000007", "refused NoWorth"), ("state 1", "new"),
            ("check", "ok"), ("begin g", "2"),
        )

    def test_rows_of_no_form(self):
        self.told(("begin g", "1"))
        for row in NO_FORMS:
            self.told((row, "no row"))
        self.told(("begin g", "2"), ("state 1", "new"), ("said", "-"), ("check", "ok"))

    def test_beside_a_house(self):
        one = House(book(TEXT.replace("\n", ";")))
        for row, told in [
            ("begin f 7 8", lambda: one.begin("f", [7, 8])), ("ask 1 3", lambda: one.ask(1, 3)), ("ask 1 4", lambda: one.ask(1, 4)),
            ("toss 1 1000006", lambda: one.toss(1, DEEP)), ("begin g", lambda: one.begin("g")), ("close 2", lambda: one.close(2)),
            ("freeze 2", lambda: freeze(one, 2)), ("check", lambda: judged(one.log(), book(TEXT.replace("\n", ";")))),
        ]:
            got, there = self.desk.answer(row), told()
            if type(there) is tuple:
                there = " ".join(map(str, there))
            self.assertEqual(str(there).removesuffix("\n").replace("\n", " / "), got)


if __name__ == "__main__":
    unittest.main()
