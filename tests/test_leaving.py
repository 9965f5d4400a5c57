"""[3.2], [3.5]: ways out of bodies, finals, closings."""

import unittest

from frozenmakers.books import BUSY, DEEP, KIND, STUBBORN
from samples import done, plain


def run_of(text, *deeds):
    """What is told of the deeds of the first maker, and the worths that were said."""
    run = plain(text)
    run.begin(run_name(text))
    told = done(run, *[(way, 1, *rest) for way, *rest in deeds])
    return told, [worth for _, worth in run.said()]


def run_name(text):
    return text.split()[1].strip(";")


ASK = ("ask",)
CLOSE = ("close",)

# Each way out of the first body of a try, what a deed at the give there is, what is told, and what is said behind all.
WAYS = {
    "end": ("say 1", ASK, ("ended", None), [70, 71, 72]),
    "break": ("break", ASK, ("ended", None), [72]),
    "again": ("again", ASK, ("ended", None), [60, 72]),
    "return": ("return 44", ASK, ("ended", 44), []),
    "return none": ("return none", ASK, ("ended", None), []),
    "throw": ("throw 45", ASK, ("raised", 45), []),
    "throw none": ("throw none", ASK, ("raised", KIND), []),
    "a fault of an expression": ("say (none + 1)", ASK, ("raised", KIND), []),
    "toss": ("say 9", ("toss", 46), ("raised", 46), []),
    "close": ("say 9", CLOSE, ("closed",), []),
}

# A while around, of which is told: by 60 that it is asked again, by 70 and 71 what is behind in it, by 72 what is behind it.
FRAME = """
    maker f; set n 0; while (n < 2)
    if n; say 60; break; end
    set n 1
    %s
    say 70; say 71; set n 2
    end; say 72; end
"""


def framed(body):
    return FRAME % body


class Finals(unittest.TestCase):
    def check(self, body, deed, told, said):
        got = run_of(framed(body), ASK, deed)
        self.assertEqual(([("gave", 1), told], said), got, body)

    def test_each_way_out_of_the_first_body(self):
        for way, (row, deed, told, behind) in WAYS.items():
            ahead = [1] if way == "end" else []
            self.check("try; give x 1; " + row + "; finally; say 50; end", deed, told, ahead + [50] + behind)
            # A return is no fault; and what is caught is told by the tests of catching.
            if told[0] != "raised":
                self.check(
                    "try; give x 1; " + row + "; catch e; say 49; finally; say 50; say 51; end", deed, told,
                    ahead + [50, 51] + behind,
                )

    def test_each_way_out_of_the_second_body(self):
        for way, (row, deed, told, behind) in WAYS.items():
            ahead = [5] + ([1] if way == "end" else [])
            body = "try; throw 5; catch e; say e; give x 1; " + row + "; finally; say 50; end"
            self.check(body, deed, told, ahead + [50] + behind)

    def test_finals_are_done_the_innermost_first_and_once(self):
        for way, (row, deed, told, behind) in WAYS.items():
            ahead = [1] if way == "end" else []
            body = "give x 1; " + row
            for number in (50, 51, 52, 53):
                body = "try; " + body + "; finally; say " + str(number) + "; end"
            self.check(body, deed, told, ahead + [50, 51, 52, 53] + behind)

    def test_finals_that_give_are_gone_on_with(self):
        for way, (row, deed, told, behind) in WAYS.items():
            body = "try; give x 1; " + row + "; finally; say 50; give y 2; say y; give y 3; say y; end"
            middle = ("raised", STUBBORN) if deed == CLOSE else ("gave", 2)
            got = run_of(framed(body), ASK, deed, ("ask", 55), ("ask", 56))
            # What the closing leaves when it is asked is told as ended.
            last = ("ended", None) if deed == CLOSE else told
            said = ([1] if way == "end" else []) + [50, 55, 56] + behind
            self.assertEqual(([("gave", 1), middle, ("gave", 3), last], said), got, way)

    def test_what_leaves_a_final_takes_its_place(self):
        for way, (row, deed, _, _) in WAYS.items():
            for new, (new_row, _, told, behind) in WAYS.items():
                if new in ("end", "toss", "close"):
                    continue
                body = "try; give x 1; " + row + "; finally; say 50; " + new_row + "; end"
                # A closing that ends otherwise than by a fault is closed all the same.
                if deed == CLOSE and told[0] == "ended":
                    told = ("closed",)
                self.check(body, deed, told, ([1] if way == "end" else []) + [50] + behind)
                outer = "try; " + body + "; finally; say 51; end"
                self.check(outer, deed, told, ([1] if way == "end" else []) + [50, 51] + behind)

    def test_tosses_and_closings_amid_a_final_take_its_place(self):
        for way, (row, deed, _, _) in WAYS.items():
            body = "try; try; give x 1; " + row + "; finally; give y 2; say 9; end; finally; say 51; end"
            middle = ("raised", STUBBORN) if deed == CLOSE else ("gave", 2)
            ahead = [1] if way == "end" else []
            for last, told in [(("toss", 6), ("raised", 6)), (CLOSE, ("closed",))]:
                got = run_of(framed(body), ASK, deed, last, ASK)
                self.assertEqual(([("gave", 1), middle, told, ("ended", None)], ahead + [51]), got, way)

    def test_what_stays_within_a_final_leaves_its_way_as_it_is(self):
        inner = """
            while 1; break; end; set n 0; while (n < 2); set n (n + 1); again; say 9; end; set n 1
            try; throw 3; catch e; say e; finally; say 50; end; try; give y 2; catch e; say e; end
        """
        for way, (row, deed, told, behind) in WAYS.items():
            body = "try; give x 1; " + row + "; finally; " + inner + "; end"
            middle = ("raised", STUBBORN) if deed == CLOSE else ("gave", 2)
            last = ("ended", None) if deed == CLOSE else told
            got = run_of(framed(body), ASK, deed, ("toss", 8))
            self.assertEqual(([("gave", 1), middle, last], ([1] if way == "end" else []) + [3, 50, 8] + behind), got, way)

    def test_finals_in_finals(self):
        for way, (row, deed, told, behind) in WAYS.items():
            for new, (new_row, _, new_told, new_behind) in WAYS.items():
                if new in ("toss", "close"):
                    continue
                body = "try; give x 1; " + row + "; finally; try; " + new_row + "; finally; say 50; end; say 51; end"
                ahead = ([1] if way == "end" else []) + ([1] if new == "end" else [])
                if new == "end":
                    self.check(body, deed, told, ahead + [50, 51] + behind)
                else:
                    if deed == CLOSE and new_told[0] == "ended":
                        new_told = ("closed",)
                    self.check(body, deed, new_told, ahead + [50] + new_behind)

    def test_what_is_returned_and_thrown_is_worked_out_ahead(self):
        for row, told in [("return n", ("ended", 4)), ("throw n", ("raised", 4)), ("return (n + none)", ("raised", KIND))]:
            got = run_of("maker f; set n 4; try; try; " + row + "; finally; set n 5; end; finally; say n; set n 6; end; end", ASK)
            self.assertEqual(([told], [5]), got)

    def test_what_is_kept_through_finals_in_finals(self):
        text = """
            maker f; try; return 1
            finally; try; try; return 2; finally; say 50; try; throw 3; catch e; say e; end; end
            finally; while 1; try; return 4; finally; break; end; end; say 51; end; end; end
        """
        self.assertEqual(([("ended", 2)], [50, 3, 51]), run_of(text, ASK))
        text = """
            maker f; try; return 1
            finally; try; try; return 2; finally; throw 7; end; catch e; say e; end; end; end
        """
        self.assertEqual(([("ended", 1)], [7]), run_of(text, ASK))
        text = "maker f; try; throw 1; finally; try; throw 2; catch e; say e; end; end; end"
        self.assertEqual(([("raised", 1)], [2]), run_of(text, ASK))

    def test_a_final_in_a_final_goes_on_as_both_were_come_to(self):
        for inner in [
            "try; try; give y 2; return 6; finally; give z 3; throw 7; end; catch e; say 50; end",
            "while 1; try; give y 2; return 6; finally; give z 3; break; end; end; say 50",
            "set y 1; while y; set y 0; try; give y 2; throw 6; finally; give z 3; set y 0; again; end; end; say 50",
            "try; try; give y 2; finally; give z 3; end; throw 6; catch e; say 50; end",
        ]:
            text = "maker f; try; give x 1; if x; return 5; end; finally; " + inner + "; end; say 51; end"
            for order in ([0, 1], [1, 0]):
                run = plain(text)
                for worth in order:
                    k = run.begin("f")
                    told = done(run, ("ask", k), ("ask", k, worth), ("ask", k, 0), ("ask", k))
                    self.assertEqual([("gave", 1), ("gave", 2), ("gave", 3), ("ended", 5 if worth else None)], told)
                    self.assertEqual([50] if worth else [50, 51], [said for at, said in run.said() if at == k])

    def test_empty_bodies(self):
        self.assertEqual(([("ended", None)], [50, 51]), run_of("maker f; try; finally; say 50; end; say 51; end", ASK))
        self.assertEqual(([("ended", None)], [51]), run_of("maker f; try; catch e; say 9; end; say 51; end", ASK))
        self.assertEqual(([("ended", None)], [51]), run_of("maker f; try; throw 1; catch e; end; say 51; end", ASK))
        self.assertEqual(([("ended", None)], [51]), run_of("maker f; if 0; say 9; end; if 1; end; say 51; end", ASK))


class Catching(unittest.TestCase):
    def test_the_nearest_around(self):
        for row, number in [("throw 5", 5), ("throw none", KIND), ("say (none * 1)", KIND), ("throw e", KIND)]:
            got = run_of(
                "maker f; try; try; " + row + "; say 9; catch e; say e; end; say 50; catch e; say 9; end; say e; end", ASK)
            self.assertEqual(([("ended", None)], [number, 50, number]), got)

    def test_each_number_that_is_tossed(self):
        for number in (0, 1, 1000002, KIND, BUSY, STUBBORN, DEEP):
            got = run_of("maker f; try; give x 1; catch e; return e; end; end", ASK, ("toss", number))
            self.assertEqual(([("gave", 1), ("ended", number)], []), got)
            got = run_of("maker f; try; give x 1; catch e; throw e; end; end", ASK, ("toss", number))
            self.assertEqual(([("gave", 1), ("raised", number)], []), got)

    def test_one_without_a_box_lets_it_through(self):
        text = "maker f; try; try; try; throw 5; finally; say 50; end; say 9; finally; say 51; end; catch e; say e; end; say 52; end"
        self.assertEqual(([("ended", None)], [50, 51, 5, 52]), run_of(text, ASK))

    def test_the_second_body_and_the_final_are_not_caught_by_their_own(self):
        text = "maker f; try; try; throw 5; catch e; say e; throw 6; finally; say 50; end; catch d; say d; say e; end; end"
        self.assertEqual(([("ended", None)], [5, 50, 6, 5]), run_of(text, ASK))
        text = "maker f; try; try; say 49; catch e; say 9; finally; throw 6; end; say 9; catch d; say d; say e; end; end"
        self.assertEqual(([("ended", None)], [49, 6, None]), run_of(text, ASK))
        self.assertEqual(
            ([("raised", 6)], [5]), run_of("maker f; try; throw 5; catch e; say e; throw 6; end; say 9; end", ASK))

    def test_the_final_is_done_behind_the_second_body_alone(self):
        text = "maker f; try; throw 5; say 9; catch e; say e; finally; say 50; end; say 51; end"
        self.assertEqual(([("ended", None)], [5, 50, 51]), run_of(text, ASK))

    def test_the_box_is_set_ahead_of_the_second_body_and_no_other(self):
        text = "maker f; set e 1; try; set a 2; throw 5; catch e; set a (a + e); end; say a; say e; end"
        self.assertEqual(([("ended", None)], [7, 5]), run_of(text, ASK))

    def test_a_fault_sets_nothing(self):
        for row in ["set y (y + none)", "give y (y + none)", "make y f (1 + none)", "ask y 1 , 1; end", "all y 5"]:
            text = "maker f y; set y 7; try; " + row + "; catch e; end; say y; end"
            run = plain(text)
            run.begin("f", [1])
            self.assertEqual(("ended", None), run.ask(1))
            self.assertEqual([(1, 7)], run.said(), row)
            self.assertEqual(1, len(run))

    def test_break_and_again_go_to_the_nearest_while(self):
        text = """
            maker f; set n 0
            while (n < 3); set n (n + 1); set k 0
            while (k < 3); set k (k + 1); if (k = 2); again; end; say (n * 10 + k)
            if (n = 2); break; end; end
            if (n = 1); again; end; say n; end; say 99; end
        """.replace("(n * 10 + k)", "((n * 10) + k)")
        self.assertEqual(([("ended", None)], [11, 13, 21, 2, 31, 33, 3, 99]), run_of(text, ASK))

    def test_the_body_of_a_while_is_asked_for_each_time(self):
        text = "maker f; set n 3; while n; give x n; set n (n - 1); end; return 7; end"
        told = [("gave", 3), ("gave", 2), ("gave", 1), ("ended", 7)]
        self.assertEqual((told, []), run_of(text, ASK, ASK, ASK, ASK))


class Closings(unittest.TestCase):
    def test_nothing_catches_a_closing(self):
        text = "maker f; try; try; give x 1; say 9; catch e; say 9; finally; say 50; end; catch e; say 9; end; say 9; end"
        self.assertEqual(([("gave", 1), ("closed",), ("ended", None)], [50]), run_of(text, ASK, CLOSE, ASK))

    def test_a_new_one_and_one_that_is_over(self):
        text = "maker f; try; give x 1; finally; say 50; end; end"
        self.assertEqual(([("closed",), ("closed",), ("ended", None)], []), run_of(text, CLOSE, CLOSE, ASK))
        self.assertEqual(([("gave", 1), ("ended", None), ("closed",)], [50]), run_of(text, ASK, ASK, CLOSE))
        self.assertEqual(([("gave", 1), ("closed",), ("closed",), ("raised", 3)], [50]),
                         run_of(text, ASK, CLOSE, CLOSE, ("toss", 3)))

    def test_a_return_and_a_fault_while_it_is_closed(self):
        for row, told in [("return 5", ("closed",)), ("throw 5", ("raised", 5)), ("return none", ("closed",))]:
            got = run_of("maker f; try; give x 1; finally; say 50; " + row + "; end; end", ASK, CLOSE, ASK)
            self.assertEqual(([("gave", 1), told, ("ended", None)], [50]), got)

    def test_a_closing_that_a_break_ends_goes_on_to_the_end_of_the_body(self):
        text = "maker f; while 1; try; give x 1; finally; break; end; end; say 50; end"
        self.assertEqual(([("gave", 1), ("closed",), ("ended", None)], [50]), run_of(text, ASK, CLOSE, ASK))
        text = "maker f; while 1; try; give x 1; finally; break; end; end; say 50; give y 2; say y; return 7; end"
        self.assertEqual(
            ([("gave", 1), ("raised", STUBBORN), ("ended", 7), ("closed",)], [50, 3]),
            run_of(text, ASK, CLOSE, ("ask", 3), CLOSE))

    STUBBORN_ONE = """
        maker f; try; give x 1; finally; try; say 50; give y 2; say y; give y 3; say y
        catch e; say e; finally; say 51; end; say 52; end; end
    """

    def test_one_that_gives_while_it_is_closed_stands_there(self):
        run = plain(self.STUBBORN_ONE)
        run.begin("f")
        self.assertEqual([("gave", 1), ("raised", STUBBORN)], done(run, ("ask", 1), ("close", 1)))
        self.assertEqual("stands", run.state(1))

    def test_it_is_asked_later(self):
        got = run_of(self.STUBBORN_ONE, ASK, CLOSE, ("ask", 7), ("ask", 8), ASK)
        self.assertEqual(
            ([("gave", 1), ("raised", STUBBORN), ("gave", 3), ("ended", None), ("ended", None)], [50, 7, 8, 51, 52]), got)

    def test_it_is_tossed_later(self):
        got = run_of(self.STUBBORN_ONE, ASK, CLOSE, ("toss", 7), ASK)
        self.assertEqual(([("gave", 1), ("raised", STUBBORN), ("ended", None), ("ended", None)], [50, 7, 51, 52]), got)

    def test_it_is_closed_later(self):
        got = run_of(self.STUBBORN_ONE, ASK, CLOSE, CLOSE, ASK)
        self.assertEqual(([("gave", 1), ("raised", STUBBORN), ("closed",), ("ended", None)], [50, 51]), got)
        got = run_of(self.STUBBORN_ONE, ASK, CLOSE, ("ask", 7), CLOSE, ASK)
        self.assertEqual(([("gave", 1), ("raised", STUBBORN), ("gave", 3), ("closed",), ("ended", None)], [50, 7, 51]), got)

    def test_one_that_gives_whenever_it_is_closed(self):
        text = "maker f; set n 0; while 1; try; give x n; finally; set n (n + 1); if (n < 3); again; end; end; end; end"
        self.assertEqual(
            ([("gave", 0), ("raised", STUBBORN), ("raised", STUBBORN), ("closed",), ("closed",)], []),
            run_of(text, ASK, CLOSE, CLOSE, CLOSE, CLOSE))

    def test_a_closing_that_leaves_it_when_it_is_closed_by_a_return_or_tossed(self):
        text = "maker f; try; give x 1; finally; give y 2; return y; end; end"
        self.assertEqual(
            ([("gave", 1), ("raised", STUBBORN), ("ended", 5)], []), run_of(text, ASK, CLOSE, ("ask", 5)))
        text = "maker f; try; give x 1; finally; try; give y 2; catch e; return e; end; end; end"
        self.assertEqual(
            ([("gave", 1), ("raised", STUBBORN), ("ended", 5)], []), run_of(text, ASK, CLOSE, ("toss", 5)))
        self.assertEqual(([("gave", 1), ("raised", STUBBORN), ("closed",)], []), run_of(text, ASK, CLOSE, CLOSE))


if __name__ == "__main__":
    unittest.main()
