"""[3.3], [3.4]: makers that make, ask, toss, close and go through one another; BUSY and DEEP; [3.5]: TooLong."""

import unittest

from frozenmakers.books import BUSY, DEEP, KIND, STUBBORN
from frozenmakers.errors import NoMaker, NoWorth, TooLong
from samples import done, plain, refused, seen


def begun(text, *begins):
    """A plain run with a maker of each name and things."""
    run = plain(text)
    for name, *worths in begins:
        run.begin(name, worths)
    return run


def maker(number):
    return ("maker", number)


class Pulls(unittest.TestCase):
    INNER = """
        maker f; try; give x 1; say x; give x 2; say x; catch e; say e; give x 3; end; return 4; end
        maker main m; %s; say 99; end
    """

    def told(self, rows, *deeds):
        """What is told of the second maker, which asks the first one, and what was said."""
        run = begun(self.INNER % rows, ("f",), ("main", maker(1)))
        return done(run, *[(way, 2, *rest) for way, *rest in deeds]), run.said(), run.state(1)

    def test_it_gives(self):
        for rows in ["ask y m , 7; say 9; end; say y", "set y 3; ask y m , none; say 9; end; say y"]:
            self.assertEqual(([("ended", None)], [(2, 1), (2, 99)], "stands"), self.told(rows, ("ask",)))

    def test_it_is_sent_a_worth(self):
        for sent, worth in [("7", 7), ("none", None), ("m", maker(1)), ("(3 + 4)", 7)]:
            rows = "ask y m , 0; end; ask y m , " + sent + "; say 9; end; say y"
            self.assertEqual([(1, worth), (2, 2), (2, 99)], self.told(rows, ("ask",))[1])

    def test_it_ends(self):
        rows = "ask y m , 0; end; ask y m , 5; end; ask y m , 6; say y; set y 8; end; say y; ask y m , 0; say y; end; say 98"
        self.assertEqual(
            ([("ended", None)], [(1, 5), (1, 6), (2, 4), (2, 8), (2, None), (2, 98), (2, 99)], "over"),
            self.told(rows, ("ask",)))

    def test_it_is_tossed(self):
        rows = "ask y m , 0; end; toss y m , 7; say 9; end; say y; toss y m , 0; say 9; end"
        self.assertEqual(([("raised", 0)], [(1, 7), (2, 3)], "over"), self.told(rows, ("ask",)))
        rows = "ask y m , 0; end; toss y m , 7; end; ask y m , 0; say y; end"
        self.assertEqual(([("ended", None)], [(1, 7), (2, 4), (2, 99)], "over"), self.told(rows, ("ask",)))

    def test_a_toss_may_end_it(self):
        run = begun("""
            maker f; try; give x 1; catch e; return e; end; end
            maker main m; ask y m , 0; end; toss y m , 1000002; say y; end; end
        """, ("f",), ("main", maker(1)))
        run.ask(2)
        self.assertEqual([(2, 1000002)], run.said())

    def test_what_it_raises_is_raised_there(self):
        rows = "set y 5; try; toss y m , 7; say 9; end; say 9; catch e; say e; end; say y"
        self.assertEqual(([("ended", None)], [(2, 7), (2, 5), (2, 99)], "over"), self.told(rows, ("ask",)))
        rows = "try; ask y m , 0; end; toss y m , 6; end; toss y m , 7; end; finally; say 50; end"
        self.assertEqual(([("raised", 7)], [(1, 6), (2, 50)], "over"), self.told(rows, ("ask",)))

    def test_one_that_is_over(self):
        rows = "close m; set y 5; ask y m , 3; say y; set y 6; end; try; toss y m , 8; end; catch e; say e; say y; end; close m"
        self.assertEqual(
            ([("ended", None)], [(2, None), (2, 8), (2, 6), (2, 99)], "over"), self.told(rows, ("ask",)))

    def test_it_stands_there_for_others(self):
        run = begun(self.INNER % "ask y m , 0; end", ("f",), ("main", maker(1)), ("main", maker(1)))
        self.assertEqual(("ended", None), run.ask(2))
        self.assertEqual([("gave", 2), ("ended", None), ("ended", None)], done(run, ("ask", 1, 5), ("ask", 3), ("ask", 1)))
        self.assertEqual([(2, 99), (1, 5), (1, 0), (3, 99)], run.said())

    def test_its_body_is_left_by_all_ways(self):
        for row, told, said in [
            ("break", ("ended", None), [8]), ("again", ("ended", None), [7, 8]), ("return 4", ("ended", 4), []),
            ("throw 4", ("raised", 4), []), ("say 5", ("ended", None), [5, 6, 8]),
        ]:
            run = begun("""
                maker f; end; maker main m; set n 0
                while (n < 2); if n; say 7; break; end; set n (n + 1)
                ask y m , 0; %s; end; say 6; set n 2; end; say 8; end
            """ % row, ("f",), ("main", maker(1)))
            self.assertEqual(told, run.ask(2))
            self.assertEqual(said, [worth for _, worth in run.said()], row)

    def test_where_the_closing_leaves_it_it_ends(self):
        run = begun("""
            maker f; try; give x 1; finally; give x 2; end; end
            maker main m; ask y m , 0; end
            try; close m; catch e; say e; end
            ask y m , 0; say y; say 7; end; end
        """, ("f",), ("main", maker(1)))
        self.assertEqual(("ended", None), run.ask(2))
        self.assertEqual([(2, STUBBORN), (2, None), (2, 7)], run.said())


class Closing(unittest.TestCase):
    def test_each_kind_of_maker(self):
        for rows, deeds, told, said in [
            ("give x 1; say 9", [], ("ended", None), [(2, 7)]),
            ("try; give x 1; finally; say 50; end", [("ask", 1)], ("ended", None), [(1, 50), (2, 7)]),
            ("try; give x 1; finally; return 3; end", [("ask", 1)], ("ended", None), [(2, 7)]),
            ("try; give x 1; finally; throw 4; end", [("ask", 1)], ("raised", 4), []),
            ("try; give x 1; finally; give x 2; say 9; end", [("ask", 1)], ("raised", STUBBORN), []),
            ("try; give x 1; finally; say 50; end", [("ask", 1), ("ask", 1)], ("ended", None), [(1, 50), (2, 7)]),
        ]:
            run = begun("maker f; " + rows + "; end; maker main m; close m; say 7; end", ("f",), ("main", maker(1)))
            done(run, *deeds)
            self.assertEqual(told, run.ask(2), rows)
            self.assertEqual(said, run.said(), rows)
            self.assertEqual("stands" if told == ("raised", STUBBORN) else "over", run.state(1))

    def test_what_it_raises_is_caught_there(self):
        run = begun("""
            maker f; try; give x 1; finally; throw 4; end; end
            maker main m; try; close m; say 9; catch e; say e; end; end
        """, ("f",), ("main", maker(1)))
        self.assertEqual([("gave", 1), ("ended", None)], done(run, ("ask", 1), ("ask", 2)))
        self.assertEqual([(2, 4)], run.said())


# What one maker does to another one; none of these goes on behind where the other one runs, or where twelve run.
DEALINGS = ["ask y m , 1; set y 70; end; set y 70", "toss y m , 1; set y 70; end; set y 70", "close m; set y 70", "all y m; set y 70"]


class Busy(unittest.TestCase):
    def test_one_that_deals_with_itself(self):
        for row in DEALINGS:
            run = begun("maker f; give m 1; try; %s; say 9; catch e; say e; end; give x y; return 5; end" % row, ("f",))
            # It is sent itself.
            self.assertEqual([("gave", 1), ("gave", None)], done(run, ("ask", 1), ("ask", 1, maker(1))), row)
            self.assertEqual([(1, BUSY)], run.said(), row)
            self.assertEqual("stands", run.state(1))
            self.assertEqual(("ended", 5), run.ask(1))

    def test_one_by_which_it_was_asked(self):
        for outer in ["ask y m , 0; say 9; end", "all y m"]:
            for row in DEALINGS:
                run = begun("""
                    maker inner m; try; %s; say 9; catch e; say e; end; give x 3; return 4; end
                    maker outer; give x 0; make m inner x; %s; return y; end
                """ % (row, outer), ("outer",))
                given = 3 if "all" in outer else None
                told = done(run, ("ask", 1), ("ask", 1, maker(1)))
                self.assertEqual([("gave", 0), ("gave", 3) if given else ("ended", 3)], told)
                self.assertEqual([(2, BUSY)], run.said())
                self.assertEqual(["stands" if given else "over", "stands"], [run.state(1), run.state(2)])
                self.assertEqual(("ended", 4), run.ask(2))

    def test_one_by_which_it_was_tossed_or_closed(self):
        for outer in ["toss y m , 7; say 9; end", "close m; set y 3"]:
            for row in DEALINGS:
                run = begun("""
                    maker inner; give m 1; try; give x 2; finally; try; %s; say 9; catch e; say e; end; return 3; end; end
                    maker outer m; give x 0; %s; return y; end
                """ % (row, outer), ("inner",), ("outer", maker(1)))
                told = done(run, ("ask", 1), ("ask", 1, maker(2)), ("ask", 2), ("ask", 2))
                self.assertEqual([("gave", 1), ("gave", 2), ("gave", 0)], told[:3])
                # A toss ends with what the inner one returns, and says so in the body of the asking; a close tells nothing.
                self.assertEqual(("ended", 3), told[3])
                self.assertEqual([(1, BUSY)] + ([(2, 9)] if "toss" in outer else []), run.said())

    def test_one_further_out(self):
        for row in DEALINGS:
            run = begun("""
                maker inner m; %s; end
                maker middle m; make m inner m; ask y m , 0; end; end
                maker outer; give x 0; make m middle x; try; ask y m , 0; end; catch e; say e; end; end
            """ % row, ("outer",))
            self.assertEqual([("gave", 0), ("ended", None)], done(run, ("ask", 1), ("ask", 1, maker(1))))
            self.assertEqual([(1, BUSY)], run.said())
            self.assertEqual(["over"] * 3, [run.state(k) for k in (1, 2, 3)])

    def test_it_stays_as_it_is(self):
        run = begun("maker f; try; give m 1; try; close m; catch e; say e; end; give y 2; finally; say 50; end; end", ("f",))
        told = done(run, ("ask", 1), ("ask", 1, maker(1)), ("ask", 1))
        self.assertEqual([("gave", 1), ("gave", 2), ("ended", None)], told)
        self.assertEqual([(1, BUSY), (1, 50)], run.said())

    def test_kind_goes_ahead(self):
        run = begun("maker f; give m 1; try; toss y m , none; end; catch e; say e; end; end", ("f",))
        done(run, ("ask", 1), ("ask", 1, maker(1)))
        self.assertEqual([(1, KIND)], run.said())

    OUTER = "maker outer m; try; all y m; say 9; catch e; say e; finally; say 50; end; say 8; return 7; end"

    def test_all_that_passes_on_to_one_that_runs(self):
        # The inner one is asked: it deals with the outer one, which stands at its all and passes on to one that runs.
        for row in ["ask y m , 0; say 9; end; say y", "toss y m , 4; end; say y"]:
            run = begun("maker inner; give m 1; %s; give x y; return 6; end; %s" % (row.replace("say 9; ", ""), self.OUTER), ("inner",))
            run.begin("outer", [maker(1)])
            self.assertEqual([("gave", 1), ("gave", 7)], done(run, ("ask", 2), ("ask", 1, maker(2))))
            self.assertEqual([(2, BUSY), (2, 50), (2, 8), (1, 7)], run.said())
            self.assertEqual(["stands", "over"], [run.state(1), run.state(2)])
            self.assertEqual(("ended", 6), run.ask(1))

    def test_all_that_is_closed_by_one_that_runs(self):
        run = begun("maker inner; give m 1; close m; give x 2; end; " + self.OUTER, ("inner",))
        run.begin("outer", [maker(1)])
        self.assertEqual([("gave", 1), ("gave", 2)], done(run, ("ask", 2), ("ask", 1, maker(2))))
        self.assertEqual([(2, BUSY), (2, 50), (2, 8)], run.said())
        self.assertEqual(["stands", "over"], [run.state(1), run.state(2)])


class Deep(unittest.TestCase):
    TEXT = """
        maker quiet; end
        maker loud; try; give x 1; catch e; say 9; finally; say 50; end; end
        maker last m; try; %s; catch e; say e; end; say y; return 6; end
        maker link m; %s; return y; end
    """
    LINKS = ["ask y m , 0; end", "all y m"]

    def chain(self, link, row, many, name="quiet", deeds=()):
        """A chain of so many makers, each asking the next one, the last of them dealing with maker 1; the chain is asked."""
        run = begun(self.TEXT % (row, link), (name,))
        done(run, *deeds)
        run.begin("last", [maker(1)])
        for number in range(2, many + 1):
            run.begin("link", [maker(number)])
        ahead = seen(run)[1][0]
        return run, run.ask(many + 1), ahead

    def test_what_is_asked_of_whichever_where_twelve_run(self):
        for link in self.LINKS:
            for row in DEALINGS:
                for name, deeds in [
                    ("quiet", []), ("loud", []), ("loud", [("ask", 1)]), ("quiet", [("ask", 1)]), ("loud", [("close", 1)]),
                ]:
                    run, told, ahead = self.chain(link, row, 12, name, deeds)
                    self.assertEqual(("ended", 6), told, (link, row))
                    self.assertEqual([(2, DEEP), (2, None)], run.said(), (link, row))
                    # It stays as it is.
                    self.assertEqual(ahead, seen(run)[1][0])

    def test_eleven_are_not_too_many(self):
        for link in self.LINKS:
            for row in DEALINGS:
                run, told, _ = self.chain(link, row, 11, "quiet")
                self.assertEqual(("ended", 6), told)
                self.assertEqual([(2, 1), (2, None)] if "toss" in row else [(2, 70)], run.said())
                self.assertEqual("over", run.state(1))

    def test_the_thirteenth_does_not_begin(self):
        for link in self.LINKS:
            run, told, _ = self.chain(link, "set y 4", 13)
            self.assertEqual(("raised", DEEP), told)
            self.assertEqual([], run.said())
            self.assertEqual(["new", "new"] + ["over"] * 12, [run.state(k) for k in range(1, 15)])

    def test_only_those_that_run_still_are_counted(self):
        for name in ["quiet", "loud"]:
            run = begun("""
                maker quiet; end; maker loud; while 1; give x 1; end; end
                maker f m; set n 0; while (n < 30); set n (n + 1); ask y m , 0; end; end; return n; end
            """, (name,), ("f", maker(1)))
            self.assertEqual(("ended", 30), run.ask(2))
        for link in self.LINKS:
            run = begun(self.TEXT % ("close m", link) + """
                maker f m k; ask y k , 0; end; ask y k , 0; end; ask y m , 0; end; return y; end
            """, ("quiet",), ("last", maker(1)))
            for number in range(2, 13):
                run.begin("link", [maker(number)])
            # Two are asked and run no more: twelve others run all the same, and no thirteenth.
            run.begin("f", [maker(12), maker(1)])
            self.assertEqual(("ended", 6), run.ask(14))
            self.assertEqual([(2, DEEP), (2, None)], run.said())
            run.begin("last", [maker(1)])
            for number in range(15, 26):
                run.begin("link", [maker(number)])
            run.begin("f", [maker(26), maker(1)])
            self.assertEqual(("raised", DEEP), run.ask(27))

    def test_busy_goes_ahead_of_it(self):
        for row in DEALINGS:
            run = begun("""
                maker first; give k 0; make m link k , 10; ask y m , 0; end; return y; end
                maker link k n
                if n; make m link k , (n - 1); ask y m , 0; end; return y; end
                set m k; try; %s; catch e; return e; end; end
            """ % row, ("first",))
            # The first one and eleven links run; the last of these deals with the first one.
            self.assertEqual([("gave", 0), ("ended", BUSY)], done(run, ("ask", 1), ("ask", 1, maker(1))))
            self.assertEqual(12, len(run))

    def test_kind_goes_ahead_of_it(self):
        for row in ["ask y 3 , 0; end", "toss y m , none; end", "toss y none , 1; end", "close none", "all y 4"]:
            run, told, _ = self.chain("ask y m , 0; end", row, 12)
            self.assertEqual([(2, KIND), (2, None)], run.said())

    def standing(self, many):
        """So many makers: one that gives and gives, and others, each standing at an all of the one ahead."""
        run = begun("""
            maker inner; try; while 1; give x 1; end; catch e; give x e; finally; say 50; end; end
            maker link m; all y m; return 5; end
            maker outer m; try; all y m; catch e; give x e; finally; say 51; end; say 52; end
            maker asks m; try; ask y m , 0; end; catch e; say e; end; return y; end
            maker tosses m; try; toss y m , 4; end; catch e; say e; end; return y; end
            maker closes m; try; close m; catch e; say e; end; end
        """, ("inner",))
        for number in range(1, many):
            run.begin("outer" if number == many - 1 else "link", [maker(number)])
            self.assertEqual(("gave", 1), run.ask(number + 1))
        self.assertEqual([], run.said())
        return run

    def test_those_that_pass_on_run(self):
        for way, told, said in [
            ("asks", ("ended", DEEP), []), ("tosses", ("ended", DEEP), []), ("closes", ("ended", None), [(13, STUBBORN)]),
        ]:
            # With the one that deals with the last of them there are thirteen: the fault comes at the all of the first one.
            run = self.standing(12)
            run.begin(way, [maker(12)])
            self.assertEqual(told, run.ask(13), way)
            self.assertEqual(said, run.said())
            self.assertEqual(["stands"] + ["over"] * 10 + ["stands"], [run.state(k) for k in range(1, 13)])
            self.assertEqual([("gave", 1), ("ended", None)], done(run, ("ask", 1), ("ask", 12)))
            self.assertEqual(said + [(12, 51), (12, 52)], run.said())

    def test_eleven_that_pass_on_are_not_too_many(self):
        for way, told, said in [
            ("asks", ("ended", 1), []), ("tosses", ("ended", 4), []),
            ("closes", ("ended", None), [(1, 50), (11, 51)]),
        ]:
            run = self.standing(11)
            run.begin(way, [maker(11)])
            self.assertEqual(told, run.ask(12), way)
            self.assertEqual(said, run.said())
        for deed, told in [(("ask", 12), ("gave", 1)), (("toss", 12, 4), ("gave", 4)), (("close", 12), ("closed",))]:
            self.assertEqual([told], done(self.standing(12), deed))


class Alls(unittest.TestCase):
    INNER = """
        maker f; try; give x 1; say x; give x 2; say x; catch e; say e; give x 3; say x; finally; say 50; end; return 4; end
        maker outer m; try; all y m; say y; catch e; say (e + 1000); finally; say 51; end; say 52; return 5; end
    """

    def told(self, *deeds):
        run = begun(self.INNER, ("f",), ("outer", maker(1)))
        return done(run, *[(way, 2, *rest) for way, *rest in deeds]), run.said(), run.state(1)

    def test_it_is_asked_likewise_till_it_ends(self):
        told, said, state = self.told(("ask", 8), ("ask", 9), ("ask", None), ("ask",))
        self.assertEqual([("gave", 1), ("gave", 2), ("ended", 5), ("ended", None)], told)
        self.assertEqual([(1, 9), (1, None), (1, 50), (2, 4), (2, 51), (2, 52)], said)
        self.assertEqual("over", state)

    def test_it_is_first_asked_with_none(self):
        run = begun("maker f; give x 1; say x; end; maker outer m; all y m; end", ("f",), ("outer", maker(1)))
        done(run, ("ask", 1), ("ask", 2, 7))
        self.assertEqual([(1, None)], run.said())

    def test_it_is_tossed(self):
        told, said, state = self.told(("ask",), ("toss", 7), ("ask", 6))
        self.assertEqual([("gave", 1), ("gave", 3), ("ended", 5)], told)
        self.assertEqual([(1, 7), (1, 6), (1, 50), (2, 4), (2, 51), (2, 52)], said)

    def test_what_it_raises_is_raised_at_the_all(self):
        told, said, state = self.told(("ask",), ("toss", 7), ("toss", 8))
        self.assertEqual([("gave", 1), ("gave", 3), ("ended", 5)], told)
        self.assertEqual([(1, 7), (1, 50), (2, 1008), (2, 51), (2, 52)], said)
        self.assertEqual("over", state)

    def test_it_is_closed_first(self):
        told, said, state = self.told(("ask",), ("close",), ("ask",))
        self.assertEqual([("gave", 1), ("closed",), ("ended", None)], told)
        self.assertEqual([(1, 50), (2, 51)], said)
        self.assertEqual("over", state)

    def test_what_its_closing_raises_is_raised_at_the_all(self):
        for row, number, state in [("throw 7", 7, "over"), ("give x 7", STUBBORN, "stands")]:
            run = begun("""
                maker f; try; give x 1; finally; %s; end; end
                maker outer m; try; all y m; catch e; say e; end; give x 2; return 8; end
                maker bare m; try; all y m; finally; say 51; end; end
            """ % row, ("f",), ("outer", maker(1)), ("f",), ("bare", maker(3)))
            # What it raises is caught: so it isn't closed any more, and gives.
            told = done(run, ("ask", 2), ("close", 2), ("ask", 2), ("ask", 4), ("close", 4), ("ask", 4))
            self.assertEqual([
                ("gave", 1), ("raised", STUBBORN), ("ended", 8), ("gave", 1), ("raised", number), ("ended", None),
            ], told)
            self.assertEqual([(2, number), (4, 51)], run.said())
            self.assertEqual([state, state], [run.state(1), run.state(3)])

    def test_closed_where_it_ends_by_a_return(self):
        run = begun("""
            maker f; try; give x 1; finally; return 3; end; end; maker outer m; all y m; say 9; end
        """, ("f",), ("outer", maker(1)))
        self.assertEqual([("gave", 1), ("closed",)], done(run, ("ask", 2), ("close", 2)))
        self.assertEqual([], run.said())

    def test_one_that_is_over(self):
        run = begun("maker f; end; maker outer m; set y 3; all y m; return y; end", ("f",), ("outer", maker(1)))
        self.assertEqual([("closed",), ("ended", None)], done(run, ("close", 1), ("ask", 2)))
        run = begun("maker f; throw 6; end; maker outer m; set y 3; all y m; end", ("f",), ("outer", maker(1)))
        self.assertEqual([("raised", 6)], done(run, ("ask", 2)))

    def test_one_that_ends_meanwhile(self):
        for deed, told in [(("ask", 2, 7), ("ended", None)), (("toss", 2, 7), ("raised", 7)), (("close", 2), ("closed",))]:
            run = begun("maker f; give x 1; return 9; end; maker outer m; set y 3; all y m; return y; end",
                        ("f",), ("outer", maker(1)))
            self.assertEqual([("gave", 1), ("ended", 9), told], done(run, ("ask", 2), ("ask", 1), deed))

    def test_the_maker_is_kept_whatever_its_box_holds(self):
        run = begun("""
            maker f n; give x n; give x (n + 1); return 9; end
            maker outer m; all m m; return m; end
        """, ("f", 1), ("outer", maker(1)))
        self.assertEqual([("gave", 1), ("gave", 2), ("ended", 9)], done(run, ("ask", 2), ("ask", 2), ("ask", 2)))

    def test_through_others(self):
        run = begun("""
            maker f; try; give x 1; say x; give x 2; catch e; give x e; end; return 3; end
            maker outer m; all y m; return (y + 1); end
        """, ("f",), ("outer", maker(1)), ("outer", maker(2)), ("outer", maker(3)))
        told = done(run, ("ask", 4), ("ask", 4, 6), ("toss", 4, 7), ("ask", 4))
        self.assertEqual([("gave", 1), ("gave", 2), ("gave", 7), ("ended", 6)], told)
        self.assertEqual([(1, 6)], run.said())

    def test_alls_of_the_same_one(self):
        run = begun("""
            maker f; give x 1; give x 2; give x 3; end; maker outer m; all y m; return 7; end
        """, ("f",), ("outer", maker(1)), ("outer", maker(1)))
        told = done(run, ("ask", 2), ("ask", 3), ("ask", 2), ("ask", 3), ("ask", 2))
        self.assertEqual([("gave", 1), ("gave", 2), ("gave", 3), ("ended", 7), ("ended", 7)], told)

    def test_all_in_a_final_while_it_is_closed(self):
        run = begun("""
            maker f; give x 5; return 6; end
            maker outer m; try; give x 1; finally; all y m; say y; end; end
        """, ("f",), ("outer", maker(1)))
        told = done(run, ("ask", 2), ("close", 2), ("ask", 2))
        self.assertEqual([("gave", 1), ("raised", STUBBORN), ("ended", None)], told)
        self.assertEqual([(2, 6)], run.said())


class TooMany(unittest.TestCase):
    def count(self, text, *begins, deed=("ask", 1)):
        """How many statements the deed begins: the least most by which it isn't too long."""
        for most in range(60):
            run = plain(text, most=most)
            for name, *worths in begins:
                run.begin(name, worths)
            ahead = seen(run), len(run)
            try:
                done(run, deed)
                return most
            except TooLong as error:
                self.assertEqual({"most": most}, vars(error))
                self.assertEqual(ahead, (seen(run), len(run)))
        return None

    def test_each_statement_counts(self):
        for rows, many in [
            ("", 0), ("say 1", 1), ("say 1; say 2; set x 3; return 4; say 9", 4), ("give x 1; say 9", 1), ("throw 3", 1),
            ("if 1; say 1; else; say 2; say 3; end", 2), ("if 0; say 1; else; say 2; say 3; end", 3), ("if none; end", 1),
            ("try; say 1; throw 3; catch e; say e; finally; say 4; end", 5), ("try; finally; say 4; end", 2),
            ("try; return 1; finally; say 4; say 5; end", 4), ("say (none + 1)", 1),
            ("close 3", 1), ("make m f; make m f", 2), ("try; all x 3; catch e; end", 2),
        ]:
            self.assertEqual(many, self.count("maker f; " + rows + "; end", ("f",)), rows)

    def test_a_while_counts_each_time_that_it_is_asked(self):
        self.assertEqual(1, self.count("maker f; while 0; say 1; end; end", ("f",)))
        # n is set, then the while is asked three times, and its body done twice.
        self.assertEqual(6, self.count("maker f; set n 2; while n; set n (n - 1); end; end", ("f",)))
        self.assertEqual(8, self.count("maker f; set n 2; while n; set n (n - 1); again; end; end", ("f",)))
        self.assertEqual(4, self.count("maker f; set n 2; while n; set n (n - 1); break; end; end", ("f",)))
        self.assertIsNone(self.count("maker f; while 1; end; end", ("f",)))

    def test_of_all_makers(self):
        text = "maker f; say 1; give x 1; say 2; end; maker outer m; ask y m , 0; end; close m; ask y m , 0; say 3; end; end"
        self.assertEqual(6, self.count(text, ("f",), ("outer", maker(1)), deed=("ask", 2)))
        text = "maker f; say 1; give x 1; say 2; end; maker outer m; all y m; say 3; end"
        self.assertEqual(3, self.count(text, ("f",), ("outer", maker(1)), deed=("ask", 2)))

    def test_of_one_asking_alone(self):
        run = plain("maker f; while 1; give x 1; end; end", most=2)
        run.begin("f")
        self.assertEqual([("gave", 1)] * 9, done(run, *[("ask", 1)] * 9))
        # An all that passes on isn't begun again.
        run = plain("maker f; while 1; give x 1; end; end; maker outer m; all y m; end", most=3)
        run.begin("f")
        run.begin("outer", [maker(1)])
        self.assertEqual([("gave", 1)] * 9, done(run, *[("ask", 2)] * 9))

    def test_by_default(self):
        run = plain("maker f n; while n; set n (n - 1); end; end")
        run.begin("f", [999])
        self.assertEqual(("ended", None), run.ask(1))
        run.begin("f", [1000])
        refused(self, TooLong, lambda: run.ask(2), most=2000)

    def test_tossed_and_closed(self):
        text = "maker f; try; give x 1; finally; say 1; while x; say 2; end; end; end"
        for deed in [("toss", 1, 3), ("close", 1), ("ask", 1, 3)]:
            run = plain(text, most=20)
            run.begin("f")
            run.ask(1)
            done(run, *([("close", 1)] if deed[0] != "ask" else []))
        run = plain("maker f; try; give x 1; finally; while 1; say 2; end; end; end", most=20)
        run.begin("f")
        run.ask(1)
        ahead = seen(run)
        for deed in [("toss", 1, 3), ("close", 1), ("ask", 1, 3)]:
            refused(self, TooLong, lambda: done(run, deed), most=20)
            self.assertEqual(ahead, seen(run))
            self.assertEqual("stands", run.state(1))

    def test_all_is_as_ahead(self):
        text = """
            maker f m n; give x 1; say x; set n 5; make k g; say k; ask y m , 7; end; set m 3
            while 1; make k g; say 2; end; end
            maker g; try; give x 1; say x; give x 2; catch e; say e; end; end
        """
        run = plain(text, most=300)
        run.begin("g")
        run.begin("f", [maker(1), 4])
        run.begin("g")
        done(run, ("ask", 1), ("ask", 2), ("ask", 3))
        for deed in [("ask", 2, 6), ("ask", 2, maker(3))]:
            ahead = seen(run)
            refused(self, TooLong, lambda: done(run, deed), most=300)
            self.assertEqual(ahead, seen(run))
            self.assertEqual(3, len(run))
            refused(self, NoMaker, lambda: run.state(4), number=4)
            refused(self, NoWorth, lambda: run.ask(1, maker(4)))
        # It goes on from where it was, and so does the one that it had asked.
        self.assertEqual([("raised", 8), ("gave", 2)], done(run, ("toss", 2, 8), ("ask", 1, 9)))
        self.assertEqual([(1, 9)], run.said())
        self.assertEqual(4, run.begin("g"))

    def test_what_was_asked_within_is_new_again(self):
        run = plain("maker f; say 1; give x 1; end; maker outer m; ask y m , 0; end; close m; while 1; end; end", most=50)
        run.begin("f")
        run.begin("outer", [maker(1)])
        refused(self, TooLong, lambda: run.ask(2), most=50)
        self.assertEqual(["new", "new"], [run.state(1), run.state(2)])
        self.assertEqual(("gave", 1), run.ask(1))

    def test_no_try_catches_it(self):
        run = plain("maker f; try; while 1; end; catch e; say e; finally; say 50; end; end", most=50)
        run.begin("f")
        refused(self, TooLong, lambda: run.ask(1), most=50)
        self.assertEqual([], run.said())

    def test_refusals_told_ahead_of_it(self):
        run = plain("maker f; say 1; end", most=0)
        run.begin("f")
        refused(self, NoMaker, lambda: run.ask(2), number=2)
        refused(self, NoWorth, lambda: run.ask(1, -1))
        refused(self, TooLong, lambda: run.ask(1), most=0)
        self.assertEqual([("raised", 3), ("ended", None)], done(run, ("toss", 1, 3), ("ask", 1)))


if __name__ == "__main__":
    unittest.main()
