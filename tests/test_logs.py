"""[9.1]: logs, houses led through them, and what the plain run finds of them."""

import unittest

from chance import chance_book
from frozenmakers.books import DEEP
from frozenmakers.errors import NoLog, NoMaker, NoName, NoTable, NoText, NoThaw, NoThings, NoWay, NoWorth, Pinned, Shared
from frozenmakers.frozen import freeze, pin, thaw, unpin
from frozenmakers.least import least
from frozenmakers.logs import again, judged
from frozenmakers.machine import House
from frozenmakers.making import made
from handing import Houses
from samples import Same, Wild, book, done, refused, things

WHOLE = book("""
    maker f a b; give x a; say b; give y x; say y; return a; end
    maker keep m; give x m; all y m; return y; end
    maker g; try; give x 5; give x x; catch e; give x e; end; return 44; end
    maker many n; while n; set n (n - 1); end; end
""")
G = "frozen 1\nmaker g new\n"


def maker(number):
    return ("maker", number)


def full():
    """A house in which each deed was done."""
    one = House(WHOLE)
    one.begin("f", [7, None])
    one.begin("g")
    one.begin("keep", (maker(2),))
    done(one, ("ask", 1), ("ask", 1, maker(2)), ("toss", 1, DEEP), ("ask", 3), ("ask", 3, 4), ("close", 2), ("ask", 3))
    pin(one, 2)
    unpin(one, 2)
    text = freeze(one, 3)
    thaw(one, text)
    pin(one, 4)
    return one


def stands(one):
    """All that a house tells without being asked anything, and what becomes of its makers."""
    numbers = sorted(one.run.makers)
    found = [(k, one.state(k), one.place(k), one.boxes(k), one.held(k)) for k in numbers]
    return [found, one.said(), one.log(), len(one)]


def goes_on(one):
    numbers = sorted(one.run.makers)
    told = [one.ask(k, worth) for worth in (3, None) for k in numbers]
    return [told, one.begin("g"), thaw(one, G), stands(one)]


class Logs(unittest.TestCase):
    def test_each_deed(self):
        one = full()
        self.assertEqual([
            ("begin", "f", (7, None), 1), ("begin", "g", (), 2), ("begin", "keep", (maker(2),), 3),
            ("ask", 1, None, ("gave", 7)), ("ask", 1, maker(2), ("gave", maker(2))), ("toss", 1, DEEP, ("raised", DEEP)),
            ("ask", 3, None, ("gave", maker(2))), ("ask", 3, 4, ("gave", 5)), ("close", 2, ("closed",)),
            ("ask", 3, None, ("ended", None)), ("pin", 2), ("unpin", 2), ("freeze", 3, "frozen 1\nmaker keep over\n"),
            ("thaw", "frozen 1\nmaker keep over\n", (4,)), ("pin", 4),
        ], one.log())
        self.assertIs(list, type(one.log()))
        self.assertEqual({tuple}, {type(row) for row in one.log()})
        self.assertEqual([], House(WHOLE).log())

    def test_it_is_the_askers_own(self):
        one = full()
        log = one.log()
        log.clear()
        one.log().append(("pin", 2))
        self.assertEqual(15, len(one.log()))
        told = [7, None]
        one = House(WHOLE)
        one.begin("f", told)
        told[0] = 9
        self.assertEqual([("begin", "f", (7, None), 1)], one.log())

    def test_what_is_refused_or_only_tells_is_not_there(self):
        one = full()
        ahead = one.log()
        for what, call in [
            (NoName, lambda: one.begin("h")), (NoThings, lambda: one.begin("f", [1])), (NoMaker, lambda: one.ask(9)),
            (NoWorth, lambda: one.ask(1, maker(9))), (NoWorth, lambda: one.toss(1, None)), (NoMaker, lambda: one.close(0)),
            (Pinned, lambda: pin(one, 4)), (NoWay, lambda: unpin(one, 1)), (Pinned, lambda: freeze(one, 4)),
            (NoText, lambda: thaw(one, "")), (NoThaw, lambda: thaw(one, "frozen 1\nmaker h new\n")),
        ]:
            with self.assertRaises(what):
                call()
        one.state(1), one.place(1), one.boxes(1), one.held(1), one.said(), len(one), one.log()
        self.assertEqual(ahead, one.log())
        other = House(WHOLE)
        other.begin("g")
        other.begin("f", [maker(1), 1])
        refused(self, Shared, lambda: freeze(other, 1), number=1)
        self.assertEqual(2, len(other.log()))


class Again(unittest.TestCase):
    def no_log(self, at, log, whole=WHOLE):
        refused(self, NoLog, lambda: again(log, whole), at=at)

    def test_any_beginning_of_it(self):
        log = full().log()
        for many in range(len(log) + 1):
            one, other = again(log[:many], WHOLE), again(book=WHOLE, log=tuple(log[:many]))
            self.assertIs(House, type(one))
            self.assertEqual(log[:many], one.log())
            self.assertEqual(stands(one), stands(other))
            rest = again(one.log() + log[many:], WHOLE)
            self.assertEqual(stands(full()), stands(rest))
            self.assertEqual(goes_on(full()), goes_on(rest))
        self.assertEqual(stands(House(WHOLE)), stands(again([], WHOLE)))

    def test_pins_are_there_again(self):
        one = again(full().log(), WHOLE)
        refused(self, Pinned, lambda: freeze(one, 4), number=4)
        unpin(one, 4)
        refused(self, NoWay, lambda: unpin(one, 2))

    def test_what_is_handed_in_stays(self):
        log = full().log()
        one = again(log, WHOLE)
        self.assertEqual(full().log(), log)
        log.clear()
        self.assertEqual(full().log(), one.log())
        one.begin("g")
        self.assertEqual([], log)

    def test_no_table_goes_ahead(self):
        tables = {function.name: made(function) for function in WHOLE.functions}
        for log in [full().log(), [], None, [None], Wild()]:
            refused(self, NoTable, lambda: again(log, WHOLE, tables={**tables, "keep": None}), name="keep")
            refused(self, NoTable, lambda: again(log, WHOLE, tables=[]), name="f")
        self.assertEqual(stands(full()), stands(again(full().log(), WHOLE, tables=tables)))
        with self.assertRaises(TypeError):
            again([], WHOLE, tables)

    def test_by_other_tables(self):
        # By least ones the rows may have other numbers, of which the texts tell.
        log = [row for row in full().log() if row[0] not in ("freeze", "thaw", "pin", "unpin")]
        one = again(log, WHOLE, tables={function.name: least(made(function)) for function in WHOLE.functions})
        self.assertEqual([log, again(log, WHOLE).said()], [one.log(), one.said()])

    def test_of_no_list(self):
        for thing in things() + [{"begin": 1}, "begin", 5, House(WHOLE), iter([]), {0: ("pin", 1)}]:
            if type(thing) is not list:
                self.no_log(0, thing)
                self.assertEqual(0, judged(thing, WHOLE))
        for thing in things():
            self.no_log(0, [thing])
            self.assertEqual(0, judged([thing], WHOLE))

    def test_rows_that_are_none(self):
        log = full().log()
        for at, row in enumerate(log):
            for wrong in [None, (), list(row), row[:-1], row + (None,), row + row[-1:], (row,), row[0], ("Begin", *row[1:]),
                          (b"ask", *row[1:]), (None, *row[1:]), (Same(), *row[1:]), (Wild(), *row[1:]), row[1:], ("end",),
                          ("say", 1, 2, 3), (["ask"], *row[1:]), ("send", 1, 0), ("make", *row[1:])]:
                self.no_log(at, log[:at] + [wrong] + log[at + 1:])
                self.assertEqual(min(at, 12), judged(log[:at] + [wrong] + log[at + 1:], WHOLE))

    def test_parts_that_are_none(self):
        log = full().log()
        wrong = {
            "name": things() + ["nobody", "F", "", "f ", b"f", ("f",)],
            "things": things() + [[7, None], (7,), (7, None, None), 7, (7, maker(1)), (7, True), (7, -1), (7, DEEP + 1)],
            "k": [each for each in things() if type(each) is not int] + [0, -1, 99, 10 ** 9, "1", maker(1), (1,)],
            "worth": [each for each in things() if each is not None and type(each) is not int] + [-1, DEEP + 1, maker(9), ("maker", True)],
            "number": [each for each in things() if type(each) is not int] + [-1, DEEP + 1, maker(1), None],
            "told": things() + [("gave",), ["gave", 7], ("gave", 7, 7), ("gave", True), ("gave", 7.0), ("gave", [7]), (b"gave", 7), "gave",
                                ("gave", Same()), (Same(), Same()), ("gave", Wild()), ("closed", None), ("closed", 7), ("raised", 1),
                                ("gave", ["maker", 2]), ("gave", ("maker", True)), ("gave", ("maker", 2, 2)), ("ended",), ["closed"],
                                ("raised", float(DEEP)), ("Closed",)],
            "text": things() + [b"frozen 1", "frozen 1\nmaker keep over", "frozen 1\nmaker nobody over\n"],
            "numbers": things() + [4, [4], (), (4, 4), (5,), (3,), (4.0,), "4", (True,), (Same(),), ((4,),)],
            "told number": [each for each in things() if type(each) is not int] + [0, 9, -1, "1", 1.0, 2.0, 3.0, (1,), (2,)],
        }
        kinds = {
            "begin": ("name", "things", "told number"), "ask": ("k", "worth", "told"), "toss": ("k", "number", "told"),
            "close": ("k", "told"), "pin": ("k",), "unpin": ("k",), "freeze": ("k", "text"), "thaw": ("text", "numbers"),
        }
        for at, row in enumerate(log):
            for part, kind in enumerate(kinds[row[0]]):
                if kind == "things" and at > 1:
                    continue
                for thing in wrong[kind]:
                    spoilt = log[:at] + [(*row[:part + 1], thing, *row[part + 2:])] + log[at + 1:]
                    with self.subTest(at=at, kind=kind):
                        self.no_log(at, spoilt)
                        self.assertEqual(min(at, 12), judged(spoilt, WHOLE))

    def test_told_otherwise(self):
        self.no_log(0, [("begin", "g", (), 2)])
        self.no_log(0, [("begin", "g", [], 1)])
        self.no_log(1, [("begin", "g", (), 1), ("begin", "g", (), 1)])
        self.no_log(1, [("begin", "g", (), 1), ("ask", 1, None, ("gave", 6))])
        self.no_log(1, [("begin", "g", (), 1), ("ask", 1, None, ("ended", 5))])
        self.no_log(1, [("begin", "g", (), 1), ("toss", 1, 5, ("raised", 6))])
        self.no_log(1, [("begin", "g", (), 1), ("close", 1, ("ended", None))])
        self.no_log(1, [("begin", "g", (), 1), ("freeze", 1, G + "\n")])
        self.no_log(1, [("begin", "g", (), 1), ("freeze", 1, G.replace("new", "over"))])
        self.no_log(0, [("thaw", G, (2,))])
        self.no_log(0, [("thaw", G, [1])])
        self.no_log(0, [("thaw", G, ())])
        self.no_log(0, [("thaw", G, 1)])
        self.no_log(1, [("thaw", G, (1,)), ("thaw", G, (1,))])
        self.assertEqual([("thaw", G, (1,)), ("thaw", G, (2,))], again([("thaw", G, (1,)), ("thaw", G, (2,))], WHOLE).log())

    def test_refused_rows(self):
        begun = [("begin", "g", (), 1), ("begin", "f", (maker(1), 3), 2)]
        for row in [("begin", "nobody", (), 3), ("begin", "f", (1,), 3), ("begin", "f", (1, maker(3)), 3), ("ask", 3, None, ("gave", 5)),
                    ("ask", 1, maker(3), ("gave", 5)), ("toss", 1, None, ("raised", None)), ("toss", 1, maker(2), ("raised", 1)),
                    ("close", 3, ("closed",)), ("pin", 3), ("unpin", 1), ("unpin", 3), ("freeze", 3, G), ("freeze", 1, G),
                    ("thaw", "", ()), ("thaw", G[:-1], (3,)), ("thaw", "frozen 1\nmaker nobody new\n", (3,))]:
            self.no_log(2, [*begun, row])
            self.no_log(2, [*begun, row, row])
            self.assertEqual(2, judged([*begun, row], WHOLE))
        self.no_log(3, [*begun, ("pin", 1), ("pin", 1)])
        self.no_log(4, [*begun, ("pin", 2), ("unpin", 2), ("unpin", 2)])
        self.no_log(3, [*begun, ("pin", 2), ("freeze", 2, freeze(again(begun, WHOLE), 2))])

    def test_by_a_newer_book(self):
        older = book("maker f; give x 1; give x 2; return 3; end; maker g; end")
        one = House(older)
        one.begin("f")
        done(one, ("ask", 1), ("ask", 1, 5))
        # There it goes otherwise only later, and a text tells of other rows.
        newer = book("maker h; end; maker f; set n 8; give x 1; say x; give x (n - 6); return n; end")
        other = again(one.log(), newer)
        self.assertEqual([[(1, 5)], ("ended", 8)], [other.said(), other.ask(1)])
        self.assertEqual(("ended", 3), one.ask(1))
        self.no_log(3, one.log(), newer)
        self.no_log(2, one.log(), book("maker f; give x 1; give x 9; return 3; end"))
        self.no_log(0, one.log(), book("maker h; end"))
        self.no_log(0, one.log(), book("maker f a; end"))
        # Of one that is over, or new, no row is told; of one that stands it is.
        one = House(older)
        for asked in range(3):
            k = one.begin("f")
            done(one, *[("ask", k)] * (0, 3, 1)[asked])
            freeze(one, k)
        newer = book("maker f; say 9; give x 1; give x 2; return 3; end")
        self.assertEqual(one.log(), again(one.log(), older).log())
        self.assertEqual(one.log()[:-1], again(one.log()[:-1], newer).log())
        self.no_log(len(one.log()) - 1, one.log(), newer)


class Judged(unittest.TestCase):
    def test_none_where_all_is_so(self):
        log = full().log()
        self.assertIsNone(judged([], WHOLE))
        self.assertIsNone(judged((), WHOLE))
        self.assertIsNone(judged(book=WHOLE, log=log[:12]))
        self.assertIsNone(judged(tuple(log[:12]), WHOLE))

    def test_a_freeze_or_thaw_is_not_so(self):
        log = full().log()
        self.assertEqual(12, judged(log, WHOLE))
        self.assertEqual(12, judged(log[:12] + log[13:], WHOLE))
        self.assertEqual(0, judged([("thaw", G, (1,))], WHOLE))
        self.assertEqual(1, judged([("begin", "g", (), 1), ("freeze", 1, G)], WHOLE))

    def test_pins(self):
        begun = [("begin", "g", (), 1), ("begin", "g", (), 2)]
        for rows, at in [
            ([("pin", 1)], None), ([("unpin", 1)], 2), ([("pin", 1), ("pin", 1)], 3), ([("pin", 1), ("pin", 2), ("unpin", 1)], None),
            ([("pin", 1), ("unpin", 1), ("unpin", 1)], 4), ([("pin", 1), ("unpin", 2)], 3), ([("pin", 3)], 2), ([("unpin", 3)], 2),
            ([("pin", 1), ("unpin", 1), ("pin", 1), ("unpin", 1)], None), ([("pin", True)], 2), ([("pin", 1.0)], 2), ([("pin", Wild())], 2),
            ([("pin", 1), ("unpin", True)], 3), ([("pin",)], 2), ([("pin", 1, None)], 2), ([("pin", 0)], 2), ([("pin", None)], 2),
        ]:
            self.assertEqual(at, judged(begun + rows, WHOLE), rows)
            if at is None:
                self.assertEqual(begun + rows, again(begun + rows, WHOLE).log())
            else:
                refused(self, NoLog, lambda: again(begun + rows, WHOLE), at=at)
        self.assertEqual(0, judged([("pin", 1), *begun], WHOLE))

    def test_by_the_text_alone(self):
        # A house by tables that go otherwise than the text.
        one = House(WHOLE, tables={**{each.name: made(each) for each in WHOLE.functions}, "g": made(book("maker g; give x 6; end").functions[0])})
        one.begin("g")
        one.ask(1)
        self.assertEqual(1, judged(one.log(), WHOLE))
        self.assertIsNone(judged(one.log(), book("maker g; give x 6; end")))

    def test_what_is_too_long_is_not_so(self):
        log = [("begin", "many", (999,), 1), ("ask", 1, None, ("ended", None)), ("begin", "many", (1500,), 2), ("ask", 2, None, ("ended", None))]
        self.assertEqual(3, judged(log, WHOLE))
        self.assertIsNone(judged(log[:3], WHOLE))

    def test_what_is_handed_in_stays(self):
        log = full().log()
        judged(log, WHOLE)
        self.assertEqual(full().log(), log)
        self.assertEqual([12, 12], [judged(log, WHOLE), judged(log, WHOLE)])


class Chance(unittest.TestCase):
    def test_houses_led_through_their_logs(self):
        for seed in range(120):
            whole = chance_book(seed)
            run = Houses(self, whole, [House(whole) for _ in range(1 + seed % 2)], seed)
            for _ in range(30):
                deed = run.random.choice([run.begin] * 2 + [run.ask] * 6 + [run.freeze_and_hold, run.thaw])
                deed()
            for one in run.houses:
                log = one.log()
                other = again(log, whole)
                self.assertEqual(stands(one), stands(other))
                first = next((at for at, row in enumerate(log) if row[0] in ("freeze", "thaw")), None)
                self.assertEqual(first, judged(log, whole))
                self.assertEqual(log[:len(log) // 2], again(log[:len(log) // 2], whole).log())
            # Gone on with: the houses are those led through their logs.
            run.houses = [again(one.log(), whole) for one in run.houses]
            for _ in range(15):
                deed = run.random.choice([run.begin, run.ask, run.ask, run.freeze_and_hold, run.thaw])
                deed()

    def test_rows_told_otherwise(self):
        for seed in range(60):
            whole = chance_book(seed)
            run = Houses(self, whole, [House(whole)], seed)
            for _ in range(12):
                run.random.choice([run.begin] + [run.ask] * 4)()
            log = run.houses[0].log()
            for at, row in enumerate(log):
                told = row[-1]
                other = told + 1 if type(told) is int else ("raised", 999) if told != ("raised", 999) else ("closed",)
                wrong = log[:at] + [(*row[:-1], other)] + log[at + 1:]
                self.assertEqual(at, judged(wrong, whole))
                refused(self, NoLog, lambda: again(wrong, whole), at=at)


if __name__ == "__main__":
    unittest.main()
