"""[1.1] to [1.3]: names, expressions, statements, functions and books."""

import unittest

from frozenmakers import books
from frozenmakers.books import BUSY, DEEP, KIND, MODULUS, STUBBORN, Book, Function, boxes_of, is_name
from frozenmakers.errors import NoBook
from samples import (
    A, NONE, ONE, SUM, Same, Wild, book_with, expressions, others, refused, things, with_body, with_box,
    with_expression, wrong_expressions,
)

OWN = (
    "maker set say give if else while break again return throw try catch finally make ask toss close all end none"
).split(" ")
WRONG_NAMES = [
    "", "abcdefghi", "aaaaaaaaaaaaaaaa", "A", "aB", "Ab", "a1", "1", "1a", "a_", "_", "_a", "a b", " a", "a ", " ", "-",
    "a-b", "a\n", "\n", "a.", "(a)", "~", "z{", "`a", "@", "\u00e9", "\u00aa", "\u00df", "\u03b1", "\uff41",
] + OWN


class Numbers(unittest.TestCase):
    def test_the_modulus_and_the_faults(self):
        self.assertEqual(1000003, MODULUS)
        self.assertEqual([1000003, 1000004, 1000005, 1000006], [KIND, BUSY, STUBBORN, DEEP])


class Names(unittest.TestCase):
    def test_one_to_eight_small_letters(self):
        for name in ["a", "z", "box", "abcdefg", "abcdefgh", "stuvwxyz", "zzzzzzzz"]:
            self.assertIs(True, is_name(name), name)

    def test_words_near_those_of_own(self):
        for name in ["pull", "over", "number", "box", "plus", "new", "stands", "makers", "sets", "en", "ends", "nonee"]:
            self.assertIs(True, is_name(name), name)

    def test_no_names(self):
        for name in WRONG_NAMES:
            self.assertIs(False, is_name(name), name)

    def test_own_is_told(self):
        self.assertEqual(OWN, list(books.OWN))
        self.assertEqual(21, len(OWN))

    def test_other_kinds(self):
        for thing in things() + [["a"], ("a",), {"a"}, b"abc"]:
            self.assertIs(False, is_name(thing))

    def test_by_name(self):
        self.assertIs(True, is_name(text="a"))


class Expressions(unittest.TestCase):
    def test_well_built(self):
        for part in expressions():
            for statement in with_expression(part):
                self.assertEqual(statement, book_with(statement).functions[0].body[0])

    def test_one_thing_otherwise_in_every_place(self):
        for part in wrong_expressions():
            for statement in with_expression(part):
                refused(self, NoBook, lambda: book_with(statement), at=0)

    def test_one_thing_otherwise_in_deep_expressions(self):
        for part in wrong_expressions():
            for deep in [("plus", part, A), ("same", A, ("under", ONE, ("less", ("times", A, part), ONE)))]:
                refused(self, NoBook, lambda: book_with(("say", deep)), at=0)

    def test_each_name_that_is_none_in_a_box(self):
        for name in WRONG_NAMES:
            refused(self, NoBook, lambda: book_with(("say", ("box", name))), at=0)

    def test_the_edges_of_numbers(self):
        for number in (0, 1, MODULUS - 1):
            book_with(("say", ("number", number)))
        for number in (-1, MODULUS, KIND, BUSY, STUBBORN, DEEP, DEEP + 1, 10 ** 5000, True, False, 0.0, 1.0):
            refused(self, NoBook, lambda: book_with(("say", ("number", number))), at=0)


class Statements(unittest.TestCase):
    def wrong(self, *statements):
        """Checks that no statement can stand: alone, in every body, behind others, in the body of a function behind."""
        for statement in statements:
            refused(self, NoBook, lambda: book_with(statement), at=0)
            refused(self, NoBook, lambda: book_with(("say", ONE), statement), at=0)
            for around in with_body((statement,)):
                refused(self, NoBook, lambda: book_with(around), at=0)
                for more in with_body((("say", ONE), around)):
                    refused(self, NoBook, lambda: Book(others() + [Function("f", (), (more,))]), at=3)

    def right(self, *statements):
        for statement in statements:
            self.assertEqual((statement,), book_with(statement).functions[0].body)
            for around in with_body((statement, statement)):
                self.assertEqual((around,), book_with(around).functions[0].body)

    def test_names_of_boxes(self):
        for name in ["a", "abcdefgh", "pull", "main", "nought"]:
            self.right(*with_box(name))
        for name in WRONG_NAMES:
            for statement in with_box(name):
                refused(self, NoBook, lambda: book_with(statement), at=0)
        for thing in things() + [("a",), ["a"], ("box", "a")]:
            for statement in with_box(thing):
                if thing is not None or statement[0] != "try":
                    refused(self, NoBook, lambda: book_with(statement), at=0)

    def test_bodies_are_tuples_of_statements(self):
        for body in [(), (("say", ONE),), (("say", ONE), ("close", A), ("say", A))]:
            self.right(*with_body(body))
        for body in [[], [("say", ONE)], None, "say", "", {}, 0, ("say", ONE), (("say", ONE), None), ((),), (A,), Same()]:
            for statement in with_body(body):
                refused(self, NoBook, lambda: book_with(statement), at=0)
                for around in with_body((statement,)):
                    refused(self, NoBook, lambda: book_with(around), at=0)

    def test_no_statements(self):
        self.wrong(
            (), ("pass",), ("over",), ("ask", "b", A, ONE, ()), ("end",), ("else",), ("none",), ONE, A, SUM, "break",
            None, ["break"], ["say", ONE], ("Say", ONE), (b"say", ONE), (["say"], ONE), (Same(), ONE), (Wild(),), 7, True,
        )

    def test_one_part_more_or_less(self):
        whole = with_expression(ONE) + with_box("b") + with_body(())
        for statement in whole:
            self.wrong(statement[:-1])
            refused(self, NoBook, lambda: book_with(statement + (ONE,)), at=0)
            refused(self, NoBook, lambda: book_with(statement + ((),)), at=0)
            refused(self, NoBook, lambda: book_with(statement[:1] + statement), at=0)
            refused(self, NoBook, lambda: book_with(list(statement)), at=0)
        for word in ("break", "again"):
            refused(self, NoBook, lambda: book_with(("while", ONE, ((word, ONE),))), at=0)
            refused(self, NoBook, lambda: book_with(("while", ONE, ([word],))), at=0)

    def test_break_and_again_stand_in_a_while(self):
        for word in ("break", "again"):
            refused(self, NoBook, lambda: book_with((word,)), at=0)
            self.right(("while", ONE, ((word,),)))
            for around in with_body(((word,),)):
                self.right(("while", ONE, (around, (word,))))
                for more in with_body((around,)):
                    self.right(("while", ONE, (more,)))
                    if "while" in (around[0], more[0]):
                        self.right(more)
                    else:
                        refused(self, NoBook, lambda: book_with(more), at=0)

    def test_break_and_again_out_of_the_while_behind_and_ahead_of_them(self):
        loop = ("while", ONE, (("break",),))
        for word in ("break", "again"):
            refused(self, NoBook, lambda: book_with(loop, (word,)), at=0)
            refused(self, NoBook, lambda: book_with((word,), loop), at=0)
            refused(self, NoBook, lambda: book_with(("if", ONE, (loop,), ((word,),))), at=0)
            refused(self, NoBook, lambda: book_with(("try", (loop,), "b", (), ((word,),))), at=0)

    def test_break_and_again_in_another_function_than_the_while(self):
        main = Function("main", (), (("while", ONE, (("make", "b", "g", ()),)),))
        for word in ("break", "again"):
            refused(self, NoBook, lambda: Book([main, Function("g", (), ((word,),))]), at=1)

    def test_a_try_catches_or_has_a_final(self):
        say = (("say", ONE),)
        self.right(
            ("try", (), "b", (), ()), ("try", say, "b", say, say), ("try", say, "b", (), say), ("try", say, "b", say, ()),
            ("try", (), None, (), say), ("try", say, None, (), say + say),
        )
        self.wrong(
            ("try", say, None, (), ()), ("try", (), None, (), ()), ("try", say, None, say, say), ("try", say, None, say, ()),
            ("try", say, None, [], say), ("try", say, None, (), []), ("try", say, None, Same(), say),
            ("try", say, None, None, say), ("try", say, None, (), None), ("try", say, False, (), say),
            ("try", say, "none", (), say), ("try", say, "b", None, say), ("try", say, "b", say, None),
        )

    def test_the_way_of_a_pull(self):
        self.right(("pull", "b", "ask", A, ONE, ()), ("pull", "b", "toss", A, ONE, ()))
        for way in ["Ask", "", "close", "pull", "all", "askx", "tos", b"ask", None, 0, True, ["ask"], ("ask",), Same(), Wild()]:
            self.wrong(("pull", "b", way, A, ONE, ()))

    def test_make_of_a_function_of_the_list(self):
        self.right(
            ("make", "b", "nought", ()), ("make", "b", "one", (A,)), ("make", "b", "two", (A, SUM)),
            ("make", "b", "main", ()), ("make", "two", "two", (NONE, NONE)),
        )
        self.wrong(
            ("make", "b", "three", ()), ("make", "b", "nought", (A,)), ("make", "b", "one", ()), ("make", "b", "one", (A, A)),
            ("make", "b", "two", (A,)), ("make", "b", "two", (A, A, A)), ("make", "b", "two", [A, A]),
            ("make", "b", "nought", []), ("make", "b", "nought", None), ("make", "b", "nought", ""),
            ("make", "b", "one", A), ("make", "b", "two", A), ("make", "b", "one", "a"), ("make", "b", "two", {"a": A, "b": A}),
        )
        for name in things() + WRONG_NAMES + [("nought",), ["nought"]]:
            refused(self, NoBook, lambda: book_with(("make", "b", name, ())), at=0)


class Lists(unittest.TestCase):
    def test_things_that_are_no_list(self):
        function = Function("f", (), ())
        for thing in things() + [function, Book([function]), {0: function}, {"f": function}, "f", iter([function])]:
            refused(self, NoBook, lambda: Book(thing), at=0)
        refused(self, NoBook, lambda: Book(()), at=0)

    def test_lists_of_other_things(self):
        function = Function("f", (), ())
        for thing in things() + ["f", ("f", (), ()), Book([function]), [function], (function,)]:
            refused(self, NoBook, lambda: Book([thing]), at=0)
            refused(self, NoBook, lambda: Book((function, thing)), at=1)
            refused(self, NoBook, lambda: Book(others() + [thing, function, thing]), at=3)

    def test_one_to_six_functions(self):
        many = [Function(name, (), ()) for name in "abcdefgh"]
        for count in range(1, 7):
            self.assertEqual(tuple(many[:count]), Book(many[:count]).functions)
            self.assertEqual(tuple(many[:count]), Book(tuple(many[:count])).functions)
        refused(self, NoBook, lambda: Book(many[:7]), at=6)
        refused(self, NoBook, lambda: Book(tuple(many)), at=6)
        refused(self, NoBook, lambda: Book(many[:6] + [None]), at=6)
        refused(self, NoBook, lambda: Book(many[:5] + [None] + many[5:]), at=5)

    def test_names_of_functions(self):
        for name in ["a", "abcdefgh", "pull", "over"]:
            self.assertEqual(name, Book([Function(name, (), ())]).functions[0].name)
        for name in WRONG_NAMES + things():
            refused(self, NoBook, lambda: Book([Function("f", (), ()), Function(name, (), ())]), at=1)

    def test_a_name_twice(self):
        one, two, again = Function("f", (), ()), Function("g", (), ()), Function("f", ("a",), ())
        refused(self, NoBook, lambda: Book([one, two, again]), at=2)
        refused(self, NoBook, lambda: Book([one, one]), at=1)
        refused(self, NoBook, lambda: Book([one, one, None]), at=1)
        refused(self, NoBook, lambda: Book([one, None, one]), at=1)

    def test_params(self):
        for params in [(), ("a",), ("a", "b", "c"), ("f",), ("abcdefgh", "pull")]:
            self.assertEqual(params, Book([Function("f", params, ())]).functions[0].params)
        wrong = [("a", "a"), ("a", "b", "a"), ["a"], [], "a", "", None, {"a": 1}, 0, (("a",),), ("a", None), (["a"],)]
        wrong += [(name,) for name in WRONG_NAMES] + [("a", thing) for thing in things()]
        for params in wrong:
            refused(self, NoBook, lambda: Book([Function("g", (), ()), Function("f", params, ())]), at=1)

    def test_bodies(self):
        for body in [[], [("say", ONE)], None, "", "say", 0, True, {}, ("say", ONE), ((("say", ONE),),), Same(), Wild(), ONE]:
            refused(self, NoBook, lambda: Book([Function("g", (), ()), Function("f", (), body)]), at=1)

    def test_the_first_of_several(self):
        right = Function("f", (), ())
        wrong = [
            Function("g", ("a", "a"), ()), Function("h", (), (("break",),)), Function("end", (), ()), Function("f", (), ()),
            None,
        ]
        for one in wrong:
            for other in wrong:
                refused(self, NoBook, lambda: Book([right, one, other]), at=1)
                refused(self, NoBook, lambda: Book([right, Function("i", (), ()), one, other]), at=2)

    def test_the_bounds_are_within(self):
        deep = ("say", ("plus", ("less", ("times", ("same", A, A), A), A), A))
        for word in ("while", "while", "while", "while"):
            deep = (word, ONE, (deep,))
        body = (deep,) + tuple([("set", name, ONE) for name in "defgh"]) + (("say", A),) * 20
        book = Book([Function("f", ("a", "b", "c"), body)])
        self.assertEqual(("a", "b", "c", "d", "e", "f", "g", "h"), boxes_of(book.functions[0]))

    def test_somewhat_beyond_the_bounds_nothing_is_refused(self):
        deep, expression = ("break",), A
        for _ in range(12):
            deep, expression = ("while", ONE, (deep,)), ("plus", expression, A)
        body = (deep, ("say", expression)) + tuple([("set", "a" * (k + 1), ONE) for k in range(8)]) * 6
        book = Book([Function("f", ("b", "c", "d", "e"), body)])
        self.assertEqual(body, book.functions[0].body)


class Makes(unittest.TestCase):
    """Of which functions a make can be: be its own body as it may, the fault is told where it is."""

    def maker(self, name, *things_of_it):
        return Function("main", (), (("make", "b", name, things_of_it),))

    def test_a_function_behind_and_ahead(self):
        Book([self.maker("one", A)] + others())
        Book(others() + [self.maker("one", A)])
        refused(self, NoBook, lambda: Book(others() + [self.maker("one")]), at=3)

    def test_of_a_function_whose_body_is_none(self):
        for body in [None, [], (("break",),), (("make", "b", "two", ()),)]:
            broken = Function("g", ("a",), body)
            refused(self, NoBook, lambda: Book([self.maker("g", A), broken]), at=1)
            refused(self, NoBook, lambda: Book([self.maker("g"), broken]), at=0)

    def test_of_a_function_without_name_or_params(self):
        for params in [["a"], ("a", "a"), ("A",), None, "a"]:
            broken = Function("g", params, ())
            refused(self, NoBook, lambda: Book([self.maker("g", A), broken]), at=0)
            refused(self, NoBook, lambda: Book([self.maker("g", A, A), broken]), at=0)
            refused(self, NoBook, lambda: Book([self.maker("g"), broken]), at=0)
            later = Function("g", ("a",), ())
            refused(self, NoBook, lambda: Book([self.maker("g", A), broken, later]), at=1)
        refused(self, NoBook, lambda: Book([self.maker("set"), Function("set", (), ())]), at=0)

    def test_of_the_first_of_a_name(self):
        one, two = Function("g", ("a",), None), Function("g", ("a", "b"), ())
        refused(self, NoBook, lambda: Book([self.maker("g", A), one, two]), at=1)
        refused(self, NoBook, lambda: Book([self.maker("g", A, A), one, two]), at=0)
        refused(self, NoBook, lambda: Book([self.maker("g", A, A), two, one]), at=2)

    def test_of_a_seventh(self):
        five = [Function(name, (), ()) for name in "abcde"]
        seventh = Function("g", ("a",), ())
        refused(self, NoBook, lambda: Book([self.maker("g", A)] + five + [seventh]), at=6)
        refused(self, NoBook, lambda: Book([self.maker("g")] + five + [seventh]), at=0)
        refused(self, NoBook, lambda: Book([self.maker("h")] + five + [seventh]), at=0)


class Fields(unittest.TestCase):
    def test_function_refuses_nothing_and_keeps_all(self):
        for thing in things():
            function = Function(thing, thing, thing)
            self.assertIs(thing, function.name)
            self.assertIs(thing, function.params)
            self.assertIs(thing, function.body)
        self.assertEqual(["a"], Function("f", ["a"], ()).params)
        self.assertEqual([("say", ONE)], Function("f", (), [("say", ONE)]).body)

    def test_by_place_and_by_name(self):
        one = Function("f", ("a",), (("say", A),))
        two = Function(body=(("say", A),), name="f", params=("a",))
        self.assertEqual(("f", ("a",), (("say", A),)), (two.name, two.params, two.body))
        self.assertEqual(one, two)
        self.assertEqual(Book([one]), Book(functions=[two]))
        self.assertEqual(("a",), boxes_of(function=one))

    def test_what_was_handed_in_is_not_changed_nor_kept(self):
        one, two = Function("f", (), ()), Function("g", (), (("say", ONE),))
        handed = [one, two]
        book = Book(handed)
        self.assertEqual([one, two], handed)
        self.assertIs(tuple, book.functions.__class__)
        handed.append(None)
        handed[0] = two
        one.name, two.body = "h", None
        self.assertEqual((Function("f", (), ()), Function("g", (), (("say", ONE),))), book.functions)

    def test_functions_are_equal_where_their_fields_are(self):
        one = Function("f", ("a",), (("say", A),))
        self.assertTrue(one == Function("f", ("a",), (("say", A),)))
        self.assertFalse(one != Function("f", ("a",), (("say", A),)))
        for other in [Function("g", ("a",), (("say", A),)), Function("f", (), (("say", A),)), Function("f", ("a",), ())]:
            self.assertFalse(one == other)
            self.assertTrue(one != other)

    def test_books_are_equal_where_their_functions_are(self):
        one, two = Function("f", (), ()), Function("g", (), ())
        self.assertTrue(Book([one, two]) == Book((one, two)))
        self.assertFalse(Book([one, two]) != Book((one, two)))
        for other in [Book([one]), Book([two, one]), Book([one, Function("g", ("a",), ())])]:
            self.assertFalse(Book([one, two]) == other)
            self.assertTrue(Book([one, two]) != other)

    def test_to_nothing_else(self):
        class Alike:
            name, params, body = "f", (), ()
            functions = (Function("f", (), ()),)

        function = Function("f", (), ())
        book = Book([function])
        for thing in things() + [Alike(), ("f", (), ()), (function,), [function], "f"]:
            if not isinstance(thing, (Same, Wild)):
                self.assertFalse(function == thing)
                self.assertFalse(book == thing)
        self.assertFalse(function.__eq__(Same()) is True)
        self.assertFalse(book.__eq__(Same()) is True)
        self.assertFalse(function == book)
        self.assertFalse(book == function)


class Boxes(unittest.TestCase):
    def boxes(self, *body):
        return boxes_of(Function("f", ("p", "q"), body))

    def test_params_alone(self):
        self.assertEqual((), boxes_of(Function("f", (), ())))
        self.assertEqual(("p", "q"), self.boxes())
        self.assertEqual(("q", "p"), boxes_of(Function("f", ("q", "p"), (("set", "p", ("box", "q")),))))

    def test_every_place_of_each_statement(self):
        x, y, z = ("box", "x"), ("box", "y"), ("box", "z")
        both = ("plus", ("number", 1), ("less", x, ("same", ("none",), y)))
        for told, statement in [
            (("b", "x", "y"), ("set", "b", both)), (("x", "y"), ("say", both)), (("b", "x", "y"), ("give", "b", both)),
            (("x", "y"), ("return", both)), (("x", "y"), ("throw", both)), (("x", "y"), ("close", both)),
            (("b", "x", "y"), ("all", "b", both)), (("b", "x", "y", "z"), ("make", "b", "g", (both, z))),
            (("b", "y", "x"), ("make", "b", "g", (y, x))), (("b",), ("make", "b", "g", ())),
            (("b", "x", "y", "z"), ("pull", "b", "ask", both, z, ())),
            (("b", "z", "x", "y"), ("pull", "b", "toss", z, both, ())),
            (("b", "z", "y", "x"), ("pull", "b", "ask", z, y, (("say", x),))),
            (("x", "y", "z"), ("if", x, (("say", y),), (("say", z),))),
            (("z", "y", "x"), ("if", z, (("say", y), ("say", x)), ())),
            (("x", "y", "z"), ("while", x, (("say", y), ("say", z), ("break",), ("again",)))),
            (("x", "b", "y", "z"), ("try", (("say", x),), "b", (("say", y),), (("say", z),))),
            (("x", "z"), ("try", (("say", x),), None, (), (("say", z),))),
            (("b",), ("try", (), "b", (), ())),
        ]:
            self.assertEqual(("p", "q") + told, self.boxes(statement), statement)
            self.assertIs(tuple, self.boxes(statement).__class__)

    def test_each_once_where_it_first_stands(self):
        x, y = ("box", "x"), ("box", "y")
        self.assertEqual(
            ("p", "q", "y", "x", "z"),
            self.boxes(("say", ("plus", y, y)), ("set", "x", ("box", "q")), ("set", "y", x), ("give", "z", ("box", "p"))),
        )
        self.assertEqual(("p", "q", "x"), self.boxes(("set", "x", x), ("set", "p", ("box", "q"))))

    def test_names_of_functions_are_no_boxes(self):
        self.assertEqual(("p", "q", "b"), self.boxes(("make", "b", "g", ())))

    def test_deep_ones(self):
        x, y, z = ("say", ("box", "x")), ("say", ("box", "y")), ("say", ("box", "z"))
        inner = ("if", ONE, (("while", ("box", "c"), (x, ("try", (y,), "b", (), ()))),), (z,))
        self.assertEqual(("p", "q", "c", "x", "y", "b", "z", "w"), self.boxes(inner, ("say", ("box", "w")), x))

    def test_the_function_stays_as_it_is(self):
        function = Function("f", ("p",), (("set", "x", A),))
        boxes_of(function)
        self.assertEqual(Function("f", ("p",), (("set", "x", A),)), function)


if __name__ == "__main__":
    unittest.main()
