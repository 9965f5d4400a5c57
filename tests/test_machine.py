"""[6.1]: houses, whose makers go by tables handed in or made."""

import inspect
import unittest
from unittest import mock

import samples
import test_alive
import test_among
import test_leaving
import test_plain
from byrows import Long, Rows, Unforgetting
from chance import chance_book, chance_deeds, chosen
from drawn import BOOK, LIVELY, PARAMS, drawn
from frozenmakers.books import BUSY, DEEP, KIND, STUBBORN, Function
from frozenmakers.errors import NoMaker, NoName, NoTable, NoThings, NoWorth, TooLong
from frozenmakers.least import least
from frozenmakers.machine import House
from frozenmakers.making import made
from frozenmakers.plain import Plain
from frozenmakers.tables import Table
from samples import Same, Wild, book, done, refused, things

A, B, M = ("box", "a"), ("box", "b"), ("box", "m")
ONE = ("number", 1)
NONE = ("none",)


def maker(number):
    return ("maker", number)


def table(*rows, name="f", params=(), lands=None, closes=None):
    return Table(name, params, rows, lands=lands, closes=closes)


def house(*rows, params=(), **more):
    """A house of one function, by this table."""
    head = " ".join(["maker f", *params])
    return House(book(head + "; end; maker other; give x 5; end"), tables={
        "f": table(*rows, params=params, **more), "other": made(book("maker other; give x 5; end").functions[0]),
    })


class Housed(House):
    """A house that tells of what is alive as a plain run does."""

    def __init__(self, whole, most=None):
        House.__init__(self, whole)

    def alive(self, k):
        return tuple(box for box in self.boxes(k) if box.isalpha())


def housed(module, skipped):
    """The tests of a module, of houses in place of plain runs."""
    found = {}
    for name, case in vars(module).items():
        if not inspect.isclass(case) or not issubclass(case, unittest.TestCase):
            continue
        tests = [each for each in dir(case) if each.startswith("test_") and each not in skipped]
        if name not in skipped:
            body = {each: None for each in skipped if hasattr(case, each)}
            found[name + "Housed"] = type(name + "Housed", (case,), {"setUpClass": classmethod(start), "module": module, **body})
            assert tests
    return found


def start(cls):
    for name in ("plain", "Plain"):
        if hasattr(cls.module, name):
            worth = Housed if name == "Plain" else lambda text, most=None: Housed(samples.book(text))
            patch = mock.patch.object(cls.module, name, worth)
            patch.start()
            cls.addClassCleanup(patch.stop)


globals().update(housed(test_plain, ["test_most_and_names_of_arguments"]))
globals().update(housed(test_leaving, []))
globals().update(housed(test_among, ["TooMany"]))
globals().update(housed(test_alive, []))


class Tables(unittest.TestCase):
    WHOLE = book("maker f a; give x a; end; maker g; end; maker h b; say b; end")

    def tables(self, **more):
        return {**{function.name: made(function) for function in self.WHOLE.functions}, **more}

    def no_table(self, name, tables, whole=None):
        refused(self, NoTable, lambda: House(whole or self.WHOLE, tables=tables), name=name)

    def test_made_where_none_are_handed_in(self):
        for one in (House(self.WHOLE), House(book=self.WHOLE, tables=None), House(self.WHOLE, tables=self.tables())):
            self.assertEqual(1, one.begin("f", [4]))
            self.assertEqual([("gave", 4), ("ended", None)], done(one, ("ask", 1), ("ask", 1)))
        with self.assertRaises(TypeError):
            House(self.WHOLE, self.tables())

    def test_the_first_without_a_table_in_the_order_of_the_book(self):
        full = self.tables()
        for names, first in [("f", "f"), ("g", "g"), ("h", "h"), ("fg", "f"), ("hg", "g"), ("hgf", "f")]:
            for thing in [None, 0, "table", (), {}, full, [full["f"]], vars(full["f"]), Wild(), Same(), Table, self.WHOLE]:
                self.no_table(first, {**full, **{name: thing for name in names}})
            rest = {name: full[name] for name in full if name not in names}
            self.no_table(first, rest)
            self.no_table(first, dict(list(rest.items())[::-1]))
            self.assertEqual(0, len(House(self.WHOLE, tables={**rest, **{name: full[name] for name in names}})))

    def test_tables_that_are_not_as_told(self):
        for wrong in [
            table(("end",), params=("b",)), table(("end",), params=()), table(("end",), name="g", params=("a",)),
            table(params=("a",)), table(("say", A, 1), params=("a",)), table(("nothing",), params=("a",)),
            table(("make", "m", "g", (ONE,), 0), params=("a",)), table(("make", "m", "i", (), 0), params=("a",)),
            table(("end",), params=["a"]), table(("end",), params=("a",), lands={1: (0, "a")}),
            table(("end",), params=("a",), closes={0: 0}), Function("f", ("a",), ()),
        ]:
            self.no_table("f", self.tables(f=wrong))

    def test_a_table_of_another_function(self):
        full = self.tables()
        self.no_table("f", {**full, "f": full["g"]})
        self.no_table("g", {**full, "g": full["h"]})
        whole = book("maker f; end; maker g; end")
        one, other = [made(function) for function in whole.functions]
        self.no_table("f", {"f": other, "g": one}, whole)
        self.no_table("g", {"f": one, "g": one}, whole)
        self.assertEqual(0, len(House(whole, tables={"g": other, "f": one})))

    def test_more_names_count_for_nothing(self):
        full = self.tables()
        more = {"i": full["f"], "k": None, "": 1, 5: full["g"], None: 3, ("f",): 2, b"f": Wild(), True: full["f"], 1.5: 0}
        one = House(self.WHOLE, tables={**more, **full})
        self.assertEqual([1, 2], [one.begin("f", [1]), one.begin("g")])
        refused(self, NoName, lambda: one.begin("i", [1]), name="i")

    def test_in_anything(self):
        full = self.tables()
        for thing in things() + [list(full), list(full.items()), list(full.values()), tuple(full.values()), full["f"], full.items(),
                                 {"F": full["f"]}, {Same: full["f"]}]:
            if thing is not None:
                self.no_table("f", thing)
        for key in ["F", "f ", b"f", ("f",), None, 0, 1.5, Same(), "g"]:
            self.no_table("f", {key: full["f"], "g": full["g"], "h": full["h"]})

    def test_what_is_handed_in_may_be_changed(self):
        rows = [("give", "x", ONE, 1), ("throw", ("box", "x")), ("return", ("number", 4))]
        whole = book("maker f; end")
        one = Table("f", (), rows, lands={1: (2, "e")}, closes={0: 2})
        tables = {"f": one}
        place = House(whole, tables=tables)
        one.lands.clear()
        one.closes[0] = 1
        one.rows = (("end",),)
        one.params = ("a",)
        one.name = "g"
        tables.clear()
        whole.functions[0].name = "g"
        whole.functions = ()
        place.begin("f")
        place.begin("f")
        self.assertEqual([("gave", 1), ("ended", 4)], done(place, ("ask", 1), ("ask", 1, 7)))
        self.assertEqual([("gave", 1), ("closed",), ("ended", None)], done(place, ("ask", 2), ("close", 2), ("ask", 2)))

    def test_tables_that_are_the_same_for_several_houses(self):
        full = self.tables()
        one, other = House(self.WHOLE, tables=full), House(self.WHOLE, tables=full)
        one.begin("f", [1])
        self.assertEqual([1, 0], [len(one), len(other)])
        self.assertEqual(self.tables(), full)


class Rowed(unittest.TestCase):
    def told(self, one, *deeds):
        k = one.begin("f", [None] * len(one.params["f"]) if hasattr(one, "params") else ())
        return done(one, *[(way, k, *rest) for way, *rest in deeds])

    def test_each_row(self):
        for rows, told in [
            ([("end",)], ("ended", None)), ([("return", ONE)], ("ended", 1)), ([("return", NONE)], ("ended", None)),
            ([("throw", ("number", 8))], ("raised", 8)), ([("throw", NONE)], ("raised", KIND)),
            ([("set", "a", ONE, 1), ("return", A)], ("ended", 1)), ([("set", "a", ONE, 1), ("return", B)], ("ended", None)),
            ([("give", "a", ("number", 6), 0)], ("gave", 6)),
            ([("if", ONE, 1, 2), ("return", ("number", 3)), ("return", ("number", 4))], ("ended", 3)),
            ([("if", NONE, 1, 2), ("return", ("number", 3)), ("return", ("number", 4))], ("ended", 4)),
            ([("make", "m", "other", (), 1), ("return", M)], ("ended", maker(2))),
            ([("make", "m", "other", (), 1), ("pull", "a", "ask", M, ONE, 2, 0), ("return", A)], ("ended", 5)),
            ([("make", "m", "other", (), 1), ("pull", "a", "ask", M, ONE, 1, 2), ("return", A)], ("ended", None)),
            ([("make", "m", "other", (), 1), ("pull", "a", "toss", M, ONE, 1, 1)], ("raised", 1)),
            ([("make", "m", "other", (), 1), ("close", M, 2), ("return", ("number", 7))], ("ended", 7)),
            ([("make", "m", "other", (), 1), ("all", "a", M, 2), ("return", ("number", 7))], ("gave", 5)),
            ([("say", ("plus", NONE, ONE), 0)], ("raised", KIND)), ([("close", ONE, 0)], ("raised", KIND)),
            ([("pull", "a", "ask", ONE, ONE, 0, 0)], ("raised", KIND)), ([("all", "a", NONE, 0)], ("raised", KIND)),
            ([("make", "m", "other", (), 1), ("pull", "a", "toss", M, M, 0, 0)], ("raised", KIND)),
        ]:
            self.assertEqual([told], self.told(house(*rows), ("ask", 9)), rows)

    def test_say(self):
        one = house(("say", A, 1), ("say", ONE, 2), ("end",), params=("a",))
        one.begin("f", [7])
        self.assertEqual(("ended", None), one.ask(1))
        self.assertEqual([(1, 7), (1, 1)], one.said())
        one.said().clear()
        self.assertEqual(2, len(one.said()))

    def test_where_faults_land(self):
        for row in [("throw", ("number", 8)), ("say", ("plus", ONE, NONE), 0), ("set", "e", ("plus", ONE, NONE), 0),
                    ("if", ("plus", ONE, NONE), 0, 0), ("give", "e", ("plus", ONE, NONE), 0), ("return", ("plus", ONE, NONE)),
                    ("make", "e", "f", (("plus", ONE, NONE),), 0), ("close", NONE, 0), ("all", "e", NONE, 0),
                    ("pull", "e", "ask", NONE, ONE, 0, 0), ("pull", "e", "toss", NONE, ONE, 0, 0)]:
            for box in ("e", "a", "z9"):
                one = house(row, ("return", ("box", box)), params=("a",), lands={0: (1, box)})
                one.begin("f", [3])
                self.assertEqual(("ended", 8 if row[0] == "throw" else KIND), one.ask(1))
        one = house(("give", "e", ONE, 1), ("return", ("box", "e")), lands={0: (0, "z")})
        self.assertEqual([("gave", 1)] * 3 + [("ended", 4)], self.told(one, ("ask",), ("toss", 3), ("toss", DEEP), ("ask", 4)))

    def test_where_closings_go_on(self):
        one = house(("give", "e", ONE, 0), ("return", ("number", 4)), closes={0: 1})
        self.assertEqual([("gave", 1), ("closed",), ("ended", None)], self.told(one, ("ask",), ("close",), ("ask",)))
        one = house(("give", "e", ONE, 0), ("end",), closes={0: 1})
        self.assertEqual([("gave", 1), ("closed",), ("ended", None)], self.told(one, ("ask",), ("close",), ("ask",)))
        one = house(("give", "e", ONE, 0), ("throw", ("number", 4)), closes={0: 1})
        self.assertEqual([("gave", 1), ("raised", 4), ("ended", None)], self.told(one, ("ask",), ("close",), ("ask",)))
        # It gives while it is closed; asked later it goes on there, and the end of a closing is told as ended.
        one = house(("give", "e", ONE, 0), ("give", "e", ("number", 2), 2), ("end",), closes={0: 1})
        self.assertEqual([("gave", 1), ("raised", STUBBORN), ("ended", None)], self.told(one, ("ask",), ("close",), ("ask",)))
        self.assertEqual([("gave", 1), ("raised", STUBBORN), ("closed",)], self.told(one, ("ask",), ("close",), ("close",)))
        one = house(("give", "e", ONE, 0), ("give", "e", ("number", 2), 0), closes={0: 1})
        self.assertEqual(
            [("gave", 1), ("raised", STUBBORN), ("gave", 1), ("raised", STUBBORN), ("closed",), ("closed",)],
            self.told(one, ("ask",), ("close",), ("ask",), ("close",), ("close",), ("close",)))

    def test_an_all(self):
        inner = "maker g; try; give x 1; give x x; catch e; say e; return 44; finally; say 9; end; end"
        whole = book("maker f m; end; " + inner)
        rows = [("all", "y", M, 1), ("give", "z", ("box", "y"), 2), ("return", ("number", 6)), ("return", ("box", "e"))]

        def told(*deeds, **more):
            one = House(whole, tables={"f": table(*rows, params=("m",), **more), "g": made(whole.functions[1])})
            one.begin("g")
            one.begin("f", [maker(1)])
            return done(one, *[(way, 2, *rest) for way, *rest in deeds]), [worth for _, worth in one.said()]

        ask = ("ask", 3)
        self.assertEqual(([("gave", 1), ("gave", 3), ("gave", None)], [9]), told(ask, ask, ask))
        self.assertEqual(([("gave", 1), ("gave", 44), ("ended", 6)], [5, 9]), told(ask, ("toss", 5), ask))
        self.assertEqual(([("gave", 1), ("closed",), ("ended", None)], [9]), told(ask, ("close",), ask))
        self.assertEqual(([("gave", 1), ("closed",), ("ended", None)], [9]), told(ask, ("close",), ask, closes={0: 2}))
        self.assertEqual(([("gave", 1), ("raised", STUBBORN), ("ended", 6)], [9]), told(ask, ("close",), ask, closes={0: 1}))

    def test_an_all_of_itself(self):
        one = house(("all", "y", ("box", "m"), 1), ("return", ("number", 6)), ("return", ("box", "e")), params=("m",),
                    lands={0: (2, "e")})
        one.begin("f", [None])
        one.begin("f", [maker(1)])
        self.assertEqual([("ended", KIND), ("ended", 6)], done(one, ("ask", 1), ("ask", 2)))
        rows = [("make", "n", "other", (), 1), ("give", "m", ONE, 2), ("all", "y", ("box", "m"), 3), ("end",), ("return", ("box", "e"))]
        one = house(*rows, lands={2: (4, "e")})
        one.begin("f")
        self.assertEqual([("gave", 1), ("ended", BUSY)], done(one, ("ask", 1), ("ask", 1, maker(1))))

    def test_twelve_run(self):
        rows = [("pull", "y", "ask", M, ONE, 1, 1), ("return", ("box", "y")), ("return", ("box", "e"))]
        one = house(*rows, params=("m",), lands={0: (2, "e")})
        one.begin("other")
        for k in range(1, 14):
            one.begin("f", [maker(k)])
        self.assertEqual(("ended", 5), one.ask(12))
        one = house(*rows, params=("m",), lands={0: (2, "e")})
        one.begin("other")
        for k in range(1, 14):
            one.begin("f", [maker(k)])
        self.assertEqual(("ended", DEEP), one.ask(13))
        self.assertEqual(["new", "over"], [one.state(1), one.state(2)])


class Telling(unittest.TestCase):
    def setUp(self):
        # Row 0 is come to again, its box b stays, c is set there; what row 4 reads isn't kept.
        self.house = house(
            ("if", A, 1, 4), ("give", "c", B, 2), ("all", "d", M, 3), ("set", "a", ("box", "c"), 0), ("return", ("box", "n")),
            params=("a", "b", "m"))
        self.house.begin("other")

    def test_a_new_one(self):
        one = self.house
        self.assertEqual(2, one.begin("f", [1, 7, maker(1)]))
        self.assertEqual([0, "new"], [one.place(2), one.state(2)])
        self.assertEqual([("a", 1), ("b", 7), ("m", maker(1)), ("n", None)], list(one.boxes(2).items()))
        self.assertEqual([1], one.held(2))
        self.assertEqual([0, "new", {}, []], [one.place(1), one.state(1), one.boxes(1), one.held(1)])

    def test_one_that_stands(self):
        one = self.house
        one.begin("f", [1, 7, maker(1)])
        one.ask(2)
        self.assertEqual([1, "stands", [1]], [one.place(2), one.state(2), one.held(2)])
        self.assertEqual([("b", 7), ("m", maker(1)), ("n", None)], list(one.boxes(2).items()))
        self.assertEqual(("gave", 5), one.ask(2, 3))
        self.assertEqual([2, "stands", [1]], [one.place(2), one.state(2), one.held(2)])
        self.assertEqual([("b", 7), ("c", 3), ("m", maker(1)), ("n", None)], list(one.boxes(2).items()))
        self.assertEqual([0, "stands"], [one.place(1), one.state(1)])

    def test_one_that_is_over(self):
        one = self.house
        for deeds in [[("close",)], [("toss", 1)], [("ask",), ("close",)], [("ask",), ("ask", 0), ("toss", 5)], [("ask",), ("toss", 5)]]:
            k = one.begin("f", [1, 7, maker(1)])
            done(one, *[(way, k, *rest) for way, *rest in deeds])
            self.assertEqual([None, "over", {}, []], [one.place(k), one.state(k), one.boxes(k), one.held(k)])

    def test_what_is_not_alive_is_forgotten(self):
        for params, rows, kept in [
            (("a", "b"), [("give", "x", A, 1), ("return", B)], {"b": 2}),
            (("a", "b"), [("give", "b", A, 1), ("return", B)], {}),
            (("a", "b"), [("give", "b", A, 0)], {"a": 1}),
            (("a", "b"), [("set", "c", B, 1), ("give", "b", A, 2), ("return", ("box", "c"))], {"c": 2}),
        ]:
            one = house(*rows, params=params)
            one.begin("f", [1, 2])
            one.ask(1)
            self.assertEqual(kept, one.boxes(1))

    def test_it_holds_none_there(self):
        # A way to where a box is read that isn't alive, for it is set ahead: on it stands what is set.
        one = house(("give", "a", NONE, 1), ("return", A), params=("a",))
        one.begin("f", [7])
        self.assertEqual({}, one.boxes(1))
        self.assertEqual([("gave", None), ("ended", None)], done(one, ("ask", 1), ("ask", 1)))

    def test_boxes_rise(self):
        boxes = ["zz", "a", "p01", "b9", "0", "9z", "aa"]
        read = ("make", "q", "f", tuple(("box", box) for box in boxes[:2]), 0)
        one = house(("give", "x", ONE, 1), *[("say", ("box", box), at + 2) for at, box in enumerate(boxes)], ("end",))
        one.begin("f")
        self.assertEqual(sorted(boxes), list(one.boxes(1)))
        one.ask(1)
        self.assertEqual(sorted(boxes), list(one.boxes(1)))
        self.assertEqual([None] * 7, list(one.boxes(1).values()))
        self.assertEqual("make", read[0])

    def test_the_order_of_held(self):
        text = "maker f; end; maker g; give x 1; end"
        names = ["zz", "a", "p01", "b", "0", "a1"]
        rows = [("make", box, "g", (), at + 1) for at, box in enumerate(names)]
        last = [("say", ("box", box), len(names) + 2 + at) for at, box in enumerate(names)]
        rows += [("all", "y", ("box", "zz"), len(names) + 1)] + last + [("end",)]
        whole = book(text)
        one = House(whole, tables={"f": table(*rows), "g": made(whole.functions[1])})
        one.begin("f")
        self.assertEqual(("gave", 1), one.ask(1))
        # a, b, zz, then 0, a1, p01; that of its all is among them.
        self.assertEqual([3, 5, 2, 6, 7, 4], one.held(1))
        rows[len(names)] = ("all", "y", ("box", "q"), len(names) + 1)
        rows[0] = ("make", "q", "g", (), 1)
        one = House(whole, tables={"f": table(*rows), "g": made(whole.functions[1])})
        one.begin("f")
        self.assertEqual(("gave", 1), one.ask(1))
        self.assertEqual([3, 5, 6, 7, 4, 2], one.held(1))
        self.assertEqual([], one.held(2))

    def test_each_once(self):
        one = house(("give", "x", ONE, 1), ("all", "y", M, 2), ("set", "q", ("same", A, ("same", B, M)), 0), params=("a", "b", "m"))
        one.begin("other")
        one.begin("f", [maker(1), maker(1), maker(1)])
        self.assertEqual([1], one.held(2))
        done(one, ("ask", 2), ("ask", 2))
        self.assertEqual([1, [1]], [one.place(2), one.held(2)])
        one = house(("give", "x", ONE, 1), ("set", "q", ("same", A, B), 0), params=("a", "b"))
        one.begin("f", [None, 1])
        one.begin("f", [maker(1), maker(1)])
        one.ask(1)
        one.ask(1, maker(1))
        self.assertEqual([[], [1]], [one.held(1), one.held(2)])

    def test_it_holds_itself(self):
        one = house(("give", "a", ONE, 1), ("give", "x", ONE, 2), ("return", A))
        one.begin("f")
        done(one, ("ask", 1), ("ask", 1, maker(1)))
        self.assertEqual([[1], {"a": maker(1)}], [one.held(1), one.boxes(1)])

    def test_what_is_told_is_the_askers_own(self):
        one = self.house
        one.begin("f", [1, 7, maker(1)])
        one.boxes(2)["a"] = 9
        one.boxes(2).clear()
        one.held(2).append(4)
        self.assertEqual({"a": 1, "b": 7, "m": maker(1), "n": None}, one.boxes(2))
        self.assertEqual([[1], ("gave", 7)], [one.held(2), one.ask(2)])

    def test_no_maker(self):
        one = self.house
        one.begin("f", [1, 7, maker(1)])
        for number in [0, 3, -1, True, 1.0, "1", None, maker(1), [1], Same(), Wild()] + things():
            if type(number) is int and number in (1, 2):
                continue
            for call in (one.place, one.boxes, one.held, one.state, one.close, one.ask):
                refused(self, NoMaker, lambda: call(number), number=number)
            refused(self, NoMaker, lambda: one.toss(number, None), number=number)
            refused(self, NoMaker, lambda: one.ask(number, Wild()), number=number)
        self.assertEqual([0, 0], [one.place(k=1), one.place(k=2)])
        self.assertEqual([{}, []], [one.boxes(k=1), one.held(k=1)])

    def test_refusals_change_nothing(self):
        one = self.house
        one.begin("f", [1, 7, maker(1)])
        one.ask(2)
        ahead = [(one.state(k), one.place(k), one.boxes(k), one.held(k)) for k in (1, 2)]
        refused(self, NoWorth, lambda: one.ask(2, maker(3)))
        refused(self, NoWorth, lambda: one.toss(2, None))
        refused(self, NoThings, lambda: one.begin("f", [1, 2]))
        refused(self, NoThings, lambda: one.begin("f", [1, 2, maker(3)]))
        refused(self, NoName, lambda: one.begin("g", [1, 2]), name="g")
        self.assertEqual(ahead, [(one.state(k), one.place(k), one.boxes(k), one.held(k)) for k in (1, 2)])
        self.assertEqual([2, 3], [len(one), one.begin("other")])

    def test_names_of_arguments(self):
        one = House(book("maker f a; give x a; end"))
        self.assertEqual(1, one.begin(things=[3], name="f"))
        self.assertEqual([("gave", 3), ("raised", 4)], [one.ask(worth=1, k=1), one.toss(number=4, k=1)])
        self.assertEqual([("closed",), "over"], [one.close(k=1), one.state(k=1)])
        # No asking is too long for a house by itself.
        one = House(book("maker f; set n 0; while (n < 4000); set n (n + 1); end; return n; end"))
        one.begin("f")
        self.assertEqual(("ended", 4000), one.ask(1))


def looks(one, plain):
    """What a house tells of its makers without asking them, beside what a plain run tells."""
    numbers = range(1, len(plain) + 1)
    own = [(one.state(k), tuple(box for box in one.boxes(k) if box.isalpha()), one.held(k)) for k in numbers]
    return [own, one.said(), len(one)], [[(plain.state(k), plain.alive(k), plain.held(k)) for k in numbers], plain.said(), len(plain)]


class Chance(unittest.TestCase):
    def test_made_and_least_tables(self):
        for seed in range(500, 750):
            whole = chance_book(seed)
            plain = Plain(whole, most=150)
            tables = {function.name: made(function) for function in whole.functions}
            houses = [House(whole), House(whole, tables=tables), House(whole, tables={name: least(tables[name]) for name in tables})]
            for deed in chance_deeds(seed, 20):
                way, *rest = chosen(deed, whole, plain)
                try:
                    told = getattr(plain, way)(*rest)
                except TooLong:
                    continue
                for one in houses:
                    self.assertEqual(told, getattr(one, way)(*rest), (seed, deed))
                    self.assertEqual(*looks(one, plain))

    def test_drawn_tables(self):
        whole = book(BOOK)
        stood = 0
        for seed in range(800):
            tables = {
                name: drawn(seed * 3 + at, 2 + (seed + at) % 12, name, LIVELY, landing=0.8) for at, name in enumerate(PARAMS)
            }
            one, rows, all_rows = House(whole, tables=tables), Rows(tables, most=400), Unforgetting(tables)
            for deed in chance_deeds(seed, 20):
                way, *rest = chosen(deed, whole, one)
                try:
                    told = rows.begin(*rest) if way == "begin" else rows.told(way, *rest)
                except (Long, RecursionError):
                    break
                self.assertEqual(told, getattr(one, way)(*rest), (seed, deed))
                self.assertEqual([rows.said, len(rows.makers)], [one.said(), len(one)])
                # What isn't alive counts for nothing: one that keeps all tells the same.
                self.assertEqual(told, all_rows.begin(*rest) if way == "begin" else all_rows.told(way, *rest))
                self.assertEqual(rows.said, all_rows.said)
                for k, each in rows.makers.items():
                    place = None if each.stage == "over" else each.row
                    self.assertEqual([each.stage, place, each.boxes, rows.held(k)], [one.state(k), one.place(k), one.boxes(k), one.held(k)])
                    self.assertEqual(sorted(each.boxes), list(one.boxes(k)))
                    stood += each.stage == "stands"
                if len(one) > 60:
                    break
        self.assertGreater(stood, 5000)


if __name__ == "__main__":
    unittest.main()
