"""[3.1], [3.3], [1.1], [1.2]: makers begun and asked, worths, expressions, what is refused."""

import unittest

from frozenmakers import plain as module
from frozenmakers.books import BUSY, DEEP, KIND, MODULUS, STUBBORN, Book, Function
from frozenmakers.errors import NoMaker, NoName, NoThings, NoWorth
from frozenmakers.plain import MOST, Plain
from samples import Same, Wild, book, done, plain, refused, seen, things

LAST = MODULUS - 1
WRONG_WORTHS = [
    -1, DEEP + 1, 10 ** 30, True, False, 1.0, "1", "none", b"1", [], (), ("maker",), ("maker", 0), ("maker", -1), ("maker", 4),
    ("maker", True), ("maker", 1.0), ("maker", "1"), ("maker", None), ("maker", 1, 1), ["maker", 1], ("Maker", 1),
    ("makers", 1), (b"maker", 1), (None, 1), (1, "maker"), ("number", 1), (1,), ("maker", (1,)), ("maker", [1]), Same(), Wild(),
    ("maker", Same()), ("maker", Wild()), (Same(), 1), (Wild(), 1), {"maker": 1}, ("none",),
]


def come_to(expression, *worths):
    """What is told where an expression is returned, of makers 1 and 2 and of what a, b and c hold."""
    run = Plain(Book([
        Function("other", (), ()), Function("f", ("a", "b", "c")[:len(worths)], (("return", expression),)),
    ]))
    run.begin("other")
    run.begin("other")
    return run.ask(run.begin("f", worths))


class Beginning(unittest.TestCase):
    def test_numbers_are_counted_with_those_of_make(self):
        run = plain("maker f; make m g; make n f; give x m; end; maker g; end")
        self.assertEqual(0, len(run))
        self.assertEqual([1, 2], [run.begin("f"), run.begin("g")])
        self.assertEqual([("gave", ("maker", 3))], done(run, ("ask", 1)))
        self.assertEqual(4, len(run))
        self.assertEqual(5, run.begin("g", ()))
        self.assertEqual([("gave", ("maker", 6)), ("ended", None)], done(run, ("ask", 4), ("ask", 2)))
        self.assertEqual(7, len(run))
        self.assertEqual(8, run.begin(name="f", things=[]))

    def test_a_name_of_nothing(self):
        run = plain("maker f; end; maker g a; end")
        for name in things() + ["", "F", "ff", "f ", "h", "maker", b"f", ["f"], ("f",), Function("f", (), ())]:
            for told in [(), [], [1], None, Wild()]:
                refused(self, NoName, lambda: run.begin(name, told), name=name)
        self.assertEqual(0, len(run))
        self.assertEqual(1, run.begin("f"))

    def test_things_as_many_as_params(self):
        run = plain("maker f; end; maker g a; end; maker h a b c; end")
        for name, many in [("f", 0), ("g", 1), ("h", 3)]:
            for count in range(6):
                for told in ([1] * count, (None,) * count):
                    if count == many:
                        self.assertEqual(len(run) + 1, run.begin(name, told))
                    else:
                        refused(self, NoThings, lambda: run.begin(name, told))
        refused(self, NoThings, lambda: run.begin("g"))
        self.assertEqual(6, len(run))

    def test_things_that_are_no_list(self):
        run = plain("maker f; end; maker g a; end")
        run.begin("f")
        for told in things() + ["a", "1", {1: 1}, {1}, range(1), iter([1]), 1, ("maker", 1), b"a", bytearray(b"a")]:
            if type(told) not in (list, tuple):
                refused(self, NoThings, lambda: run.begin("g", told))
                refused(self, NoThings, lambda: run.begin("f", told))

    def test_things_that_are_no_worths_that_are_there(self):
        run = plain("maker f; end; maker g a b; end")
        for _ in range(3):
            run.begin("f")
        for thing in WRONG_WORTHS:
            for told in ([1, thing], (thing, 1), [thing, thing]):
                refused(self, NoThings, lambda: run.begin("g", told))
            refused(self, NoThings, lambda: run.begin("f", [thing]))
        # The one that it would be isn't there yet.
        refused(self, NoThings, lambda: run.begin("g", [("maker", 4), 1]))
        self.assertEqual(3, len(run))
        self.assertEqual(4, run.begin("g", [("maker", 3), 1]))
        self.assertEqual(5, run.begin("g", [("maker", 4), 1]))

    def test_worths_that_are_there(self):
        for worth in [None, 0, 1, LAST, MODULUS, BUSY, STUBBORN, DEEP, ("maker", 1), ("maker", 2)]:
            run = plain("maker f a; say a; give x a; say x; return x; end; maker g; end")
            run.begin("g")
            run.ask(1)
            run.begin("g")
            self.assertEqual(3, run.begin("f", (worth,)))
            self.assertEqual([("gave", worth), ("ended", worth)], done(run, ("ask", 3), ("ask", 3, worth)))
            self.assertEqual([(3, worth), (3, worth)], run.said())

    def test_what_is_handed_in_may_be_changed(self):
        told = [1, 2]
        whole = book("maker f a b; give x a; return b; end")
        run = Plain(whole)
        run.begin("f", told)
        told[1] = 7
        told.clear()
        whole.functions[0].body = ()
        whole.functions[0].params = ()
        whole.functions = ()
        self.assertEqual([], told)
        self.assertEqual(2, run.begin("f", [3, 4]))
        self.assertEqual([("gave", 1), ("ended", 2)], done(run, ("ask", 1), ("ask", 1)))

    def test_most_and_names_of_arguments(self):
        self.assertEqual(2000, MOST)
        self.assertEqual(2000, module.MOST)
        run = Plain(book=book("maker f; give x 1; give x x; end"), most=2)
        self.assertEqual(1, run.begin(things=(), name="f"))
        self.assertEqual(("gave", 1), run.ask(k=1, worth=3))
        self.assertEqual(("gave", 7), run.ask(worth=7, k=1))
        self.assertEqual(("raised", 5), run.toss(number=5, k=1))
        self.assertEqual(("closed",), run.close(k=1))
        self.assertEqual(["over", (), []], [run.state(k=1), run.alive(k=1), run.held(k=1)])
        with self.assertRaises(TypeError):
            Plain(book("maker f; end"), 3)


class Asking(unittest.TestCase):
    def test_boxes_that_are_no_params_hold_none(self):
        run = plain("maker f a; say a; say b; say c; end")
        run.begin("f", [4])
        run.ask(1)
        self.assertEqual([(1, 4), (1, None), (1, None)], run.said())

    def test_makers_of_a_function_have_boxes_of_their_own(self):
        run = plain("maker f a; while 1; give x a; set a (a + 1); end; end")
        run.begin("f", [5])
        run.begin("f", [50])
        asked = done(run, *[("ask", k) for k in (1, 2, 1, 1, 2)])
        self.assertEqual([("gave", 5), ("gave", 50), ("gave", 6), ("gave", 7), ("gave", 51)], asked)

    def test_the_first_worth_counts_for_nothing(self):
        run = plain("maker f a; say a; say x; give x a; say x; return x; end")
        run.begin("f", [4])
        self.assertEqual("new", run.state(1))
        self.assertEqual(("gave", 4), run.ask(1, 9))
        self.assertEqual("stands", run.state(1))
        self.assertEqual(("ended", 8), run.ask(1, 8))
        self.assertEqual("over", run.state(1))
        self.assertEqual([(1, 4), (1, None), (1, 8)], run.said())

    def test_without_a_worth_none_is_sent(self):
        run = plain("maker f; set x 3; give x 1; return x; end")
        run.begin("f")
        self.assertEqual([("gave", 1), ("ended", None)], done(run, ("ask", 1), ("ask", 1)))

    def test_the_box_of_a_give_is_set_behind_what_it_gives(self):
        run = plain("maker f x; give x (x + 1); give x (x + 1); return x; end")
        run.begin("f", [1])
        asked = done(run, ("ask", 1), ("ask", 1, 10), ("ask", 1, 20))
        self.assertEqual([("gave", 2), ("gave", 11), ("ended", 20)], asked)

    def test_the_end_of_the_body_ends_with_none(self):
        for body in ("", "say 1;", "set x 3;", "if 1; end;"):
            run = plain("maker f; " + body + " end")
            run.begin("f")
            self.assertEqual(("ended", None), run.ask(1))
            self.assertEqual("over", run.state(1))

    def test_a_new_one_that_is_tossed_or_closed_is_over(self):
        run = plain("maker f; say 1; try; give x 1; catch e; say 2; finally; say 3; end; end")
        for number in [0, 7, KIND, DEEP]:
            k = run.begin("f")
            self.assertEqual([("raised", number), ("ended", None)], done(run, ("toss", k, number), ("ask", k, 3)))
        k = run.begin("f")
        self.assertEqual(("closed",), run.close(k))
        self.assertEqual("over", run.state(k))
        self.assertEqual(("ended", None), run.ask(k))
        self.assertEqual([], run.said())

    def test_one_that_is_over(self):
        for over in [("ask", 1), ("toss", 1, 3), ("close", 1)]:
            run = plain("maker f; throw 5; end")
            run.begin("f")
            done(run, over)
            for _ in range(2):
                self.assertEqual(
                    [("ended", None), ("raised", 9), ("closed",), ("ended", None)],
                    done(run, ("ask", 1, 7), ("toss", 1, 9), ("close", 1), ("ask", 1)),
                )
                self.assertEqual("over", run.state(1))

    def test_a_toss_is_raised_at_the_give(self):
        run = plain("maker f; give x 1; try; set x 4; give x 2; say 9; catch e; say e; say x; end; give x 3; say 8; end")
        run.begin("f")
        asked = done(run, ("ask", 1), ("ask", 1), ("toss", 1, 7), ("toss", 1, 6), ("ask", 1))
        self.assertEqual([("gave", 1), ("gave", 2), ("gave", 3), ("raised", 6), ("ended", None)], asked)
        self.assertEqual([(1, 7), (1, 4)], run.said())

    def test_said_tells_all_in_its_order(self):
        run = plain("maker f a; say a; give x 1; say x; make m f x; ask y m , 0; end; say m; end")
        run.begin("f", [3])
        run.begin("f", [4])
        done(run, ("ask", 2), ("ask", 1), ("ask", 2, 5))
        self.assertEqual([(2, 4), (1, 3), (2, 5), (3, 5), (2, ("maker", 3))], run.said())
        run.said().append((1, 1))
        run.said().clear()
        self.assertEqual(5, len(run.said()))

    def test_what_only_tells_changes_nothing(self):
        run = plain("maker f m; make n f m; try; give x n; return n; finally; give y 1; end; end")
        run.begin("f", [1])
        for deed in [("ask", 1), ("ask", 1), ("close", 1)]:
            done(run, deed)
            once = seen(run)
            run.held(1).append(3)
            run.said().append(3)
            self.assertEqual(once, seen(run))
            self.assertIs(tuple, type(run.alive(1)))
            self.assertEqual([list, list], [type(run.held(1)), type(run.said())])


class Refused(unittest.TestCase):
    TEXT = "maker f a; say a; give x a; say x; make m f x; give x m; end"
    WRONG_NUMBERS = [0, -1, 3, 4, True, False, 1.0, "1", None, [1], (1,), ("maker", 1), b"1", Same(), Wild(), 10 ** 30, {1}]

    def setUp(self):
        self.run_ = plain(self.TEXT)
        self.run_.begin("f", [5])
        self.run_.begin("f", [("maker", 1)])
        self.run_.ask(1)

    def tearDown(self):
        self.assertEqual(2, len(self.run_))
        self.assertEqual([(1, 5)], self.run_.said())
        self.assertEqual(["stands", "new"], [self.run_.state(1), self.run_.state(2)])
        self.assertEqual([("gave", ("maker", 3)), ("gave", ("maker", 1))], done(self.run_, ("ask", 1, 3), ("ask", 2)))

    def test_makers_that_are_not_there(self):
        run = self.run_
        for number in self.WRONG_NUMBERS + things():
            if type(number) is int and number in (1, 2):
                continue
            for call in [run.close, run.state, run.alive, run.held, run.ask]:
                refused(self, NoMaker, lambda: call(number), number=number)
            # The maker is looked at ahead of the worth.
            for worth in [1, -1, None, Wild()]:
                refused(self, NoMaker, lambda: run.ask(number, worth), number=number)
                refused(self, NoMaker, lambda: run.toss(number, worth), number=number)

    def test_worths_that_are_not_there(self):
        run = self.run_
        for worth in WRONG_WORTHS + [("maker", 3)]:
            for number in (1, 2):
                refused(self, NoWorth, lambda: run.ask(number, worth))
                refused(self, NoWorth, lambda: run.toss(number, worth))
        for worth in things():
            if worth is not None and (type(worth) is not int or not 0 <= worth <= DEEP):
                refused(self, NoWorth, lambda: run.ask(1, worth))

    def test_only_numbers_are_tossed(self):
        run = self.run_
        for worth in [None, ("maker", 1), ("maker", 2), DEEP + 1, -1]:
            refused(self, NoWorth, lambda: run.toss(1, worth))
            refused(self, NoWorth, lambda: run.toss(2, worth))

    def test_one_that_is_over_is_looked_at_likewise(self):
        run = plain("maker f; end")
        run.begin("f")
        run.close(1)
        refused(self, NoWorth, lambda: run.ask(1, ("maker", 2)))
        refused(self, NoWorth, lambda: run.toss(1, None))
        refused(self, NoMaker, lambda: run.close(2), number=2)


class Expressions(unittest.TestCase):
    def comes(self, worth, expression, *worths):
        told = come_to(expression, *worths)
        self.assertEqual(("ended", worth), told, (expression, worths))
        self.assertIs(type(worth), type(told[1]))

    def test_numbers_none_and_boxes(self):
        for number in (0, 1, LAST):
            self.comes(number, ("number", number))
        self.comes(None, ("none",))
        self.comes(None, ("box", "z"))
        for worth in (0, DEEP, None, ("maker", 1), ("maker", 2)):
            self.comes(worth, ("box", "b"), 1, worth)

    def test_sums_by_the_modulus(self):
        numbers = [0, 1, 2, 500001, 500002, LAST, KIND, BUSY, STUBBORN, DEEP]
        for one in numbers:
            for other in numbers:
                self.comes((one + other) % 1000003, ("plus", ("box", "a"), ("box", "b")), one, other)
                self.comes((one - other) % 1000003, ("less", ("box", "a"), ("box", "b")), one, other)
                self.comes((one * other) % 1000003, ("times", ("box", "a"), ("box", "b")), one, other)
                self.comes(1 if one < other else 0, ("under", ("box", "a"), ("box", "b")), one, other)
                self.comes(1 if one == other else 0, ("same", ("box", "a"), ("box", "b")), one, other)
        self.comes(LAST, ("less", ("number", 0), ("number", 1)))
        self.comes(0, ("plus", ("number", LAST), ("number", 1)))
        self.comes(3, ("plus", ("box", "a"), ("number", 0)), DEEP)

    def test_same_of_all_worths(self):
        worths = [None, 0, 1, 2, KIND, ("maker", 1), ("maker", 2)]
        for at, one in enumerate(worths):
            for to, other in enumerate(worths):
                self.comes(1 if at == to else 0, ("same", ("box", "a"), ("box", "b")), one, other)
        self.comes(1, ("same", ("none",), ("box", "z")))

    def test_kind_of_what_is_no_number(self):
        for sign in ("plus", "less", "times", "under"):
            for worth in (None, ("maker", 1)):
                for pair in ((worth, 1), (1, worth), (worth, worth)):
                    self.assertEqual(("raised", KIND), come_to((sign, ("box", "a"), ("box", "b")), *pair))
                for deep in (
                    ("same", ("box", "a"), (sign, ("box", "b"), ("number", 1))),
                    ("same", (sign, ("box", "b"), ("number", 1)), ("box", "a")),
                    ("times", ("number", 0), (sign, ("number", 0), ("box", "b"))),
                    ("plus", ("same", ("less", ("number", 0), (sign, ("number", 1), ("box", "b"))), ("none",)), ("none",)),
                ):
                    self.assertEqual(("raised", KIND), come_to(deep, 1, worth))

    def test_expressions_four_deep(self):
        deep = ("plus", ("times", ("less", ("under", ("box", "a"), ("number", 4)), ("number", 3)), ("box", "b")), ("number", 1))
        self.comes((-2 * 7 + 1) % MODULUS, deep, 3, 7)
        self.comes((-3 * 7 + 1) % MODULUS, deep, 4, 7)

    def test_what_is_so(self):
        run = plain("""
            maker f a; if a; say 1; else; say 0; end; if a; say 2; end
            while a; say 3; set a n; end; end; maker g n a; while a; say 4; set a n; end; end
        """)
        run.begin("f", [None])
        for worth, so in [
            (0, False), (None, False), (1, True), (LAST, True), (DEEP, True), (("maker", 1), True), (MODULUS, True),
        ]:
            ahead = len(run.said())
            run.ask(run.begin("f", [worth]))
            self.assertEqual([1, 2, 3] if so else [0], [each for _, each in run.said()[ahead:]], worth)
            for last in (0, None):
                ahead = len(run.said())
                run.ask(run.begin("g", [last, worth]))
                self.assertEqual([4] if so else [], [each for _, each in run.said()[ahead:]], worth)

    def test_kind_in_whatever_part_of_a_statement(self):
        wrong = "(x + 1)"
        for row in [
            "set y " + wrong, "say " + wrong, "give y " + wrong, "if " + wrong + "; say 8; else; say 9; end",
            "while " + wrong + "; say 9; end", "return " + wrong, "throw " + wrong, "make y f " + wrong + " , 1",
            "make y f 1 , " + wrong, "ask y " + wrong + " , 1; say 8; end", "ask y m , " + wrong + "; say 8; end",
            "toss y " + wrong + " , 1; say 8; end", "toss y m , " + wrong + "; say 8; end", "close " + wrong, "all y " + wrong,
        ]:
            run = plain("maker f a b; end; maker main m; set y 3; try; " + row + "; say 7; catch e; say e; say y; end; end")
            run.begin("f", [1, 1])
            run.begin("main", [("maker", 1)])
            self.assertEqual(("ended", None), run.ask(2), row)
            self.assertEqual([(2, KIND), (2, 3)], run.said(), row)
            self.assertEqual(["new", 2], [run.state(1), len(run)], row)

    def test_kind_of_what_should_be_a_maker_or_a_number(self):
        for row in ["throw A", "ask y A , 1; say 8; end", "toss y A , 1; say 8; end", "close A", "all y A"]:
            for worth in (None, 0, 5, DEEP):
                run = plain("maker f a; try; " + row.replace("A", "a") + "; say 7; catch e; say e; end; end")
                run.begin("f", [worth])
                run.ask(1)
                is_thrown = row == "throw A" and worth is not None
                self.assertEqual([(1, worth if is_thrown else KIND)], run.said(), (row, worth))
        for worth in ("none", "m"):
            run = plain("maker f m; toss y m , " + worth + "; end; end; maker g; end")
            run.begin("g")
            run.begin("f", [("maker", 1)])
            self.assertEqual([("raised", KIND)], done(run, ("ask", 2)))
            self.assertEqual("new", run.state(1))
        run = plain("maker f a; throw a; end")
        run.begin("f", [None])
        run.begin("f", [("maker", 1)])
        self.assertEqual([("raised", KIND)] * 2, done(run, ("ask", 1), ("ask", 2)))

    def test_make_takes_the_old_worth_of_its_box(self):
        run = plain("maker f; make m g 5 , none; make m g m , m; return m; end; maker g a b; return a; end")
        run.begin("f")
        self.assertEqual(("ended", ("maker", 3)), run.ask(1))
        self.assertEqual([("ended", ("maker", 2)), ("ended", 5)], done(run, ("ask", 3), ("ask", 2)))


if __name__ == "__main__":
    unittest.main()
