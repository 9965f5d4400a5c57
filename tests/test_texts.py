"""[2.1] Texts: written sign by sign, read back, refused with the row that can't stand."""

import unittest

from frozenmakers.books import Book, Function
from frozenmakers.errors import NoBook, NoText
from frozenmakers.texts import book_of, written
from samples import (
    A, NONE, ONE, SUM, book_with, expressions, others, refused, things, with_body, with_box, with_expression,
)

SAY = ("say", ONE)
WHOLE = """\
maker main p q
set a 0
say none
give b (a + 1)
if (a < 1000002)
say 1
else
if (x - xx)
end
end
while ((a * 2) = (none - q))
break
again
try
say 2
catch c
say 3
finally
say 4
end
end
try
catch d
end
try
finally
throw 5
end
make m main 1 , none
make m nought
make m one (m + (m - m))
ask r m , none
say r
toss r m , (1 + 1)
end
end
close m
all r m
return 7
end
maker nought
end
maker one abcdefgh
end
"""


def rows_of(*rows):
    """The text of these rows, in a function."""
    return "".join([row + "\n" for row in ("maker f a", *rows, "end")])


class Writing(unittest.TestCase):
    def written(self, *body):
        text = written(Book([Function("f", ("a",), body)] + others()))
        head, tail = "maker f a\n", "end\nmaker nought\nend\nmaker one a\nend\nmaker two a b\nend\n"
        self.assertEqual((head, tail), (text[:len(head)], text[-len(tail):]))
        return text[len(head):-len(tail)]

    def test_functions(self):
        self.assertEqual("maker f\nend\n", written(Book([Function("f", (), ())])))
        self.assertEqual("maker f a b c\nend\n", written(Book([Function("f", ("a", "b", "c"), ())])))
        both = [Function("g", (), (SAY,)), Function("f", ("g",), (SAY, SAY))]
        self.assertEqual("maker g\nsay 1\nend\nmaker f g\nsay 1\nsay 1\nend\n", written(Book(both)))
        self.assertEqual("maker g\nsay 1\nend\nmaker f g\nsay 1\nsay 1\nend\n", written(book=Book(both)))

    def test_expressions(self):
        for told, part in [
            ("0", ("number", 0)), ("7", ("number", 7)), ("1000002", ("number", 1000002)), ("none", NONE), ("a", A),
            ("(a + 1)", ("plus", A, ONE)), ("(a - 1)", ("less", A, ONE)), ("(a * 1)", ("times", A, ONE)),
            ("(a < 1)", ("under", A, ONE)), ("(a = 1)", ("same", A, ONE)),
            ("(x = xx)", ("same", ("box", "x"), ("box", "xx"))),
            ("((a + 1) * none)", ("times", SUM, NONE)), ("(none - (a + 1))", ("less", NONE, SUM)),
            ("((1 < a) = (a + (a + 1)))", ("same", ("under", ONE, A), ("plus", A, SUM))),
        ]:
            self.assertEqual(f"say {told}\n", self.written(("say", part)))

    def test_statements_without_bodies(self):
        for told, statement in [
            ("set b (a + 1)", ("set", "b", SUM)), ("say 1", SAY), ("give b a", ("give", "b", A)),
            ("return none", ("return", NONE)), ("throw (a + 1)", ("throw", SUM)), ("close a", ("close", A)),
            ("all b a", ("all", "b", A)), ("make b nought", ("make", "b", "nought", ())),
            ("make b one (a + 1)", ("make", "b", "one", (SUM,))), ("make b two a , 1", ("make", "b", "two", (A, ONE))),
            ("make b two (a + 1) , none", ("make", "b", "two", (SUM, NONE))),
        ]:
            self.assertEqual(told + "\n", self.written(statement))
            self.assertEqual(f"say 1\n{told}\nsay 1\n", self.written(SAY, statement, SAY))

    def test_statements_with_bodies(self):
        two = (SAY, ("close", A))
        for told, statement in [
            ("if a,end", ("if", A, (), ())), ("if a,say 1,end", ("if", A, (SAY,), ())),
            ("if a,say 1,close a,else,say 1,end", ("if", A, two, (SAY,))),
            ("if a,else,say 1,close a,end", ("if", A, (), two)),
            ("while (a + 1),end", ("while", SUM, ())),
            ("while 1,say 1,break,again,end", ("while", ONE, (SAY, ("break",), ("again",)))),
            ("try,catch b,end", ("try", (), "b", (), ())), ("try,finally,say 1,end", ("try", (), None, (), (SAY,))),
            ("try,say 1,catch b,finally,say 1,end", ("try", (SAY,), "b", (), (SAY,))),
            ("try,say 1,close a,catch b,close a,end", ("try", two, "b", (("close", A),), ())),
            ("try,catch b,say 1,finally,say 1,close a,end", ("try", (), "b", (SAY,), two)),
        ]:
            self.assertEqual(told.replace(",", "\n") + "\n", self.written(statement))

    def test_pulls(self):
        self.assertEqual("ask b a , 1\nend\n", self.written(("pull", "b", "ask", A, ONE, ())))
        self.assertEqual("toss b (a + 1) , a\nend\n", self.written(("pull", "b", "toss", SUM, A, ())))
        self.assertEqual("ask b a , none\nsay 1\nsay 1\nend\n", self.written(("pull", "b", "ask", A, NONE, (SAY, SAY))))

    def test_bodies_in_bodies(self):
        inner = ("try", (("if", A, (), (SAY,)),), "b", (("while", A, (("again",),)),), (("pull", "b", "ask", A, A, ()),))
        self.assertEqual(
            "while 1\ntry\nif a\nelse\nsay 1\nend\ncatch b\nwhile a\nagain\nend\nfinally\nask b a , a\nend\nend\nbreak\nend\n",
            self.written(("while", ONE, (inner, ("break",)))),
        )

    def test_the_book_stays_as_it_is(self):
        book = book_of(WHOLE)
        written(book)
        self.assertEqual(book_of(WHOLE), book)


class ReadingBack(unittest.TestCase):
    def test_each_statement_and_expression(self):
        whole = with_box("a") + with_body(()) + with_body((SAY,)) + with_body((SAY, ("set", "a", SUM)))
        for part in expressions():
            whole += with_expression(part)
        for statement in whole:
            for body in [(statement,), (SAY, statement, statement), (("while", A, (statement, ("again",), ("break",))),)]:
                book = book_with(*body)
                self.assertEqual(book, book_of(written(book)))
                self.assertEqual(book, book_of(text=written(book)))

    def test_bodies_in_bodies(self):
        for inner in with_body((SAY,)):
            for middle in with_body((inner, SAY)):
                for outer in with_body((SAY, middle)):
                    book = book_with(outer)
                    self.assertEqual(book, book_of(written(book)))

    def test_a_whole_text(self):
        book = book_of(WHOLE)
        self.assertEqual(WHOLE, written(book))
        self.assertEqual(["main", "nought", "one"], [each.name for each in book.functions])
        self.assertEqual([("p", "q"), (), ("abcdefgh",)], [each.params for each in book.functions])
        self.assertEqual(("give", "b", ("plus", A, ONE)), book.functions[0].body[2])
        self.assertEqual(("try", (), "d", (), ()), book.functions[0].body[5])
        self.assertEqual(("make", "m", "nought", ()), book.functions[0].body[8])

    def test_what_is_told_are_tuples(self):
        def only_tuples(part):
            self.assertIn(part.__class__, (tuple, str, int, None.__class__))
            for inner in part if isinstance(part, tuple) else ():
                only_tuples(inner)

        for function in book_of(WHOLE).functions:
            only_tuples((function.name, function.params, function.body))

    def test_a_text_somewhat_deeper_and_longer(self):
        rows = ["while (((((((a + 1) + 1) + 1) + 1) + 1) + 1) + 1)"] * 12 + ["break"] + ["end"] * 12 + ["say 1"] * 60
        self.assertEqual(rows_of(*rows), written(book_of(rows_of(*rows))))


class Rows(unittest.TestCase):
    """Texts with one row that can't stand: it is told, whatever stands behind."""

    def wrong(self, at, text):
        refused(self, NoText, lambda: book_of(text), row=at)

    def cannot_stand(self, *rows):
        """Checks that no row can stand in a function, be it in a while or not."""
        for row in rows:
            self.wrong(1, rows_of(row))
            self.wrong(3, rows_of("say 1", "while 1", row, "end", "nothing"))
            self.wrong(1, "maker f a\n" + row + "\n")

    def test_no_texts(self):
        for thing in things() + [[WHOLE], (WHOLE,), WHOLE.encode(), book_of(WHOLE), WHOLE.split("\n")]:
            self.wrong(0, thing)

    def test_rows_that_lack(self):
        rows = WHOLE.split("\n")[:-1]
        for many in range(len(rows)):
            text = "".join([row + "\n" for row in rows[:many]])
            if many == 0 or rows[many].partition(" ")[0] != "maker":
                self.wrong(many, text)
            if many > 0:
                self.wrong(many, text[:-1])
        self.wrong(len(rows), WHOLE[:-1])
        book_of(WHOLE)

    def test_the_last_line_end(self):
        self.wrong(1, "maker f")
        self.wrong(1, "maker f\n")
        self.wrong(2, "maker f\nend")
        self.wrong(3, "maker f\nsay 1\nend")
        self.wrong(3, "maker f\nend\nmaker g")
        book_of("maker f\nend\n")

    def test_a_row_that_cannot_stand_goes_ahead_of_those_that_lack(self):
        self.wrong(0, "m")
        self.wrong(1, "maker f\nen")
        self.wrong(1, "maker f\nsay")
        self.wrong(1, "maker f\nsay\nsay 1")
        self.wrong(2, "maker f\nend\nx")
        self.wrong(2, "maker f\nend\nend")

    def test_empty_rows(self):
        self.wrong(0, "")
        self.wrong(0, "\n")
        self.wrong(0, "\n" + WHOLE)
        self.wrong(WHOLE.count("\n"), WHOLE + "\n")
        self.wrong(WHOLE.count("\n"), WHOLE + "\n\n")
        self.wrong(2, WHOLE.replace("\n", "\n\n", 2).replace("\n\n", "\n", 1))
        self.cannot_stand("", " ", "  ")

    def test_a_blank_more_or_less(self):
        rows = WHOLE.split("\n")[:-1]
        for at, row in enumerate(rows):
            changed = [" " + row, row + " ", row.replace(" ", "  ", 1) if " " in row else row + "  "]
            changed += [row[:k] + row[k + 1:] for k in range(len(row)) if row[k] == " "]
            changed += [row[:k] + "  " + row[k + 1:] for k in range(len(row)) if row[k] == " "]
            for other in changed:
                if other not in ("maker mainp q", "maker main pq", "maker oneabcdefgh", "makem nought", "make mnought"):
                    self.wrong(at, "\n".join(rows[:at] + [other] + rows[at + 1:]) + "\n")

    def test_other_signs(self):
        rows = WHOLE.split("\n")[:-1]
        for at, row in enumerate(rows):
            for sign in "AZ_%!#&/.:;?@[]{}|~^$'`\"\\>9":
                for k in range(len(row) + 1):
                    other = row[:k] + sign + row[k:]
                    if sign == "9" and k > 0 and ("0" in row or row[k - 1].isdigit() or row[k:k + 1].isdigit()):
                        continue
                    self.wrong(at, "\n".join(rows[:at] + [other] + rows[at + 1:]) + "\n")

    def test_rows_out_of_a_function(self):
        for row in ["end", "say 1", "set a 1", "break", "again", "else", "catch b", "finally", "try", "while 1", "f", "1"]:
            self.wrong(0, row + "\n")
            self.wrong(0, row + "\n" + WHOLE)
            self.wrong(2, "maker f\nend\n" + row + "\n")
            self.wrong(2, "maker f\nend\n" + row + "\nmaker g\nend\n")

    def test_maker_rows(self):
        for row in ["maker", "maker ", "maker A", "maker f ", "maker f  a", "maker f a b1", "maker end", "maker f none",
                    "maker abcdefghi", "maker f abcdefghi", "maker f a , b", "maker f (a)", "maker f 1", "Maker f", "makers f",
                    "maker f set", " maker f", "maker  f", "make f", "maker maker"]:
            self.wrong(0, row + "\nend\n")
            self.wrong(2, "maker g\nend\n" + row + "\nend\n")
        self.cannot_stand("maker g")

    def test_words_in_place_of_names(self):
        for name in ["A", "1", "a1", "none", "end", "abcdefghi", "(a)", ",", "=", "maker", "set", "ab-c"]:
            self.cannot_stand(
                f"set {name} 1", f"give {name} 1", f"all {name} a", f"make {name} f a", f"make b {name} a", f"make b {name}",
                f"ask {name} a , 1", f"toss {name} a , 1",
            )
            self.wrong(2, rows_of("try", f"catch {name}", "end"))

    def test_one_word_more_or_less(self):
        self.cannot_stand(
            "set", "set b", "set b 1 1", "set b , 1", "say", "say 1 1", "say 1 , 1", "give", "give b", "give 1", "give b 1 2",
            "if", "if 1 1", "while", "while 1 1", "break 1", "break a", "again 1", "return", "return 1 1", "throw",
            "throw 1 , 1", "try 1", "try a", "make", "make b", "make b f a ,", "make b f , a", "make b f a , , a", "make b f ,",
            "make b f a a", "make b f a,a", "make b f a, a", "make b f a ,a", "make b f a , a ,", "ask", "ask b", "ask b a",
            "ask b a ,", "ask b a 1", "ask b a , 1 , 1", "ask b , 1", "ask b a, 1", "ask a , 1", "toss b a", "toss b a ,",
            "toss b a , 1 , 1", "toss b a 1", "toss", "close", "close a a", "close a , a", "all", "all b", "all b a a",
            "pull b ask a , 1", "over", "box a", "number 1", "Say 1", "SAY 1", "sayx 1", "say1", "a", "1", "none", ",", "(",
        )
        for row in ["end 1", "end a", "else 1", "else a", "finally a", "catch", "catch a b", "catch 1"]:
            self.wrong(2, rows_of("if 1", row, "end"))
            self.wrong(2, rows_of("try", row, "end"))
            self.wrong(1, rows_of(row))

    def test_expressions(self):
        for text in [
            "", "00", "07", "01", "10000000", "00000001", "12345678", "-1", "+1", "1.0", "1_0", "1a", "a1", "A", "None",
            "maker", "end", "set", "all", "abcdefghi", "+", "=", "(", ")", "()", "(1)", "(a)", "(none)", "((a + 1))",
            "a + 1", "1 1", "(a + 1", "a + 1)", "(a +1)", "(a+ 1)", "(a+1)", "( a + 1)", "(a + 1 )", "( a + 1 )", "(a  + 1)",
            "(a + 1))", "((a + 1)", "(a + )", "( + a)", "(+ a)", "(a +)", "(a + + 1)", "(a 1)", "(a a 1)", "(a + 1 + 1)",
            "(a + 1 +)", "(a > 1)", "(a / 1)", "(a == 1)", "(a plus 1)", "(a , 1)", "(a + 1) + 1", "(a + 1)(a + 1)",
            "(a + (1 + 1)", "((a + 1) + )", "(a + 1) ", " (a + 1)", ")a + 1(", "a)", "(a", "(a + b", "+ + +", "(+ + +)",
            "(1 + 1 1)", "(1 1 + 1)", "((1 + 1) 1)", "(((a + 1) + 1)", "(a + 1)1", "1(a + 1)", "(a)(b)", "a(", "1)1", "(a + 01)",
            "a a + 1)", "+ a + 1)", "(+ + 1)", "(1 + +)", "(1 (1)", "(1 (1 1)", "(1 + (1)", "((a + 1)", "(a (+ 1)", "(a +) 1)",
            "(a + 12345678)", "(a + B)", "[a + 1]", "\u0663", "\u00b2", "\uff17", "1\u0663", "'a'", "\"a\"", "1,", ",1", "@1",
        ]:
            self.cannot_stand(
                "set b " + text, "say " + text, "give b " + text, "if " + text, "while " + text, "return " + text,
                "throw " + text, "make b f " + text, "make b f 1 , " + text, "make b f " + text + " , 1", "ask b a , " + text,
                "ask b " + text + " , a", "toss b a , " + text, "toss b " + text + " , a", "close " + text, "all b " + text,
            )

    def test_very_deep_texts(self):
        self.cannot_stand("say " + "(" * 6000, "say " + "(" * 6000 + "a", "say " + "(" * 3000 + "a + 1" + ")" * 3000)
        self.wrong(2001, "maker f\n" + "while 1\n" * 2000)
        self.wrong(2001, "maker f\n" + "while 1\n" * 2000 + "end 1\n")

    def test_numbers_up_to_seven_figures_can_stand(self):
        for figures in ["1000003", "1000006", "9999999"]:
            refused(self, NoBook, lambda: book_of(rows_of("say " + figures)), at=0)
        self.cannot_stand("say 10000000", "say 99999999", "say 0000000", "say 0999999")

    def test_break_and_again(self):
        for word in ("break", "again"):
            self.wrong(1, rows_of(word))
            self.wrong(2, rows_of("if 1", word, "end"))
            self.wrong(3, rows_of("while 1", "end", word))
            self.wrong(3, rows_of("try", "catch b", word, "end"))
            self.wrong(3, rows_of("try", "finally", word, "end"))
            self.wrong(2, rows_of("ask b a , 1", word, "end"))
            self.wrong(4, rows_of("if 1", "while 1", "end", word, "end"))
            self.wrong(5, "maker f\nwhile 1\nend\nend\nmaker g\n" + word + "\nend\n")
            for rows in [
                (word,), ("if 1", word, "else", word, "end"), ("try", word, "catch b", word, "finally", word, "end"),
                ("toss b a , 1", word, "end"), ("while 1", "end", word), ("if 1", "try", "finally", word, "end", "end"),
            ]:
                text = rows_of("while 1", *rows, "end")
                self.assertEqual(text, written(book_of(text)))

    def test_else(self):
        self.wrong(1, rows_of("else"))
        self.wrong(2, rows_of("while 1", "else", "say 1", "end"))
        self.wrong(2, rows_of("try", "else", "say 1", "end"))
        self.wrong(2, rows_of("ask b a , 1", "else", "say 1", "end"))
        self.wrong(4, rows_of("if 1", "else", "say 1", "else", "say 1", "end"))
        self.wrong(3, rows_of("if 1", "else", "else", "say 1", "end"))
        self.wrong(3, rows_of("if 1", "end", "else", "say 1", "end"))
        self.wrong(4, rows_of("if 1", "if 1", "end", "finally", "end"))

    def test_catch_and_finally(self):
        self.wrong(1, rows_of("catch b"))
        self.wrong(1, rows_of("finally"))
        for row in ("catch b", "finally"):
            self.wrong(2, rows_of("if 1", row, "say 1", "end"))
            self.wrong(2, rows_of("while 1", row, "say 1", "end"))
            self.wrong(2, rows_of("toss b a , 1", row, "say 1", "end"))
            self.wrong(4, rows_of("try", "finally", "say 1", row, "say 1", "end"))
            self.wrong(3, rows_of("try", "finally", row, "say 1", "end"))
        self.wrong(3, rows_of("try", "catch b", "catch b", "end"))
        self.wrong(4, rows_of("try", "catch b", "finally", "catch c", "end"))
        self.wrong(2, rows_of("try", "else", "end"))

    def test_ends_that_cannot_stand(self):
        self.wrong(2, rows_of("try", "end"))
        self.wrong(3, rows_of("try", "say 1", "end"))
        self.wrong(3, rows_of("if 1", "else", "end"))
        self.wrong(4, rows_of("if 1", "say 1", "else", "end"))
        self.wrong(3, rows_of("try", "finally", "end"))
        self.wrong(4, rows_of("try", "catch b", "finally", "end"))
        self.wrong(5, rows_of("try", "catch b", "say 1", "finally", "end"))
        self.wrong(2, rows_of("end"))
        self.wrong(4, rows_of("if 1", "end", "end"))

    def test_other_line_ends(self):
        for sign in ["\r\n", "\r", "\x0b", "\x0c", "\u2028", "\x85", "\t", "\0"]:
            self.wrong(0, WHOLE.replace("\n", sign))
            self.wrong(1, WHOLE.replace("\nset a 0\n", "\nset a 0" + sign + "\n"))


class NoBooks(unittest.TestCase):
    """Texts whose rows can all stand, and that are no book."""

    def test_the_first_function_that_cannot_stand(self):
        for at, text in [
            (0, "maker f a a\nend\n"), (1, "maker f\nend\nmaker f\nend\n"), (1, "maker f\nend\nmaker g a b a\nend\n"),
            (0, "maker f\nmake b g\nend\n"), (0, "maker f a\nmake b f\nend\n"), (0, "maker f a\nmake b f 1 , 2\nend\n"),
            (1, "maker f\nmake b g 1\nend\nmaker g a\nsay 1000003\nend\n"), (0, "maker f\nsay (1 + 9999999)\nend\n"),
            (1, "maker f\nend\nmaker g\nwhile 1\nif 1\nelse\nthrow 1000003\nend\nend\nend\n"),
            (6, "".join([f"maker {name}\nend\n" for name in "abcdefg"])),
        ]:
            refused(self, NoBook, lambda: book_of(text), at=at)

    def test_rows_go_ahead(self):
        refused(self, NoText, lambda: book_of("maker f a a\nsay 1000003\nend\nend\n"), row=3)
        refused(self, NoText, lambda: book_of("maker f a a\nend"), row=2)
        refused(self, NoText, lambda: book_of("maker f\nmake b g\n"), row=2)

    def test_a_refusal_leaves_the_next_reading_as_it_was(self):
        for text in ["maker f\nif 1\n", "maker f\nend\nmaker f\nend\n", None]:
            with self.assertRaises((NoText, NoBook)):
                book_of(text)
            self.assertEqual(WHOLE, written(book_of(WHOLE)))


if __name__ == "__main__":
    unittest.main()
