"""[3.5]: what is alive, and which makers are held."""

import unittest

from samples import done, plain


def maker(number):
    return ("maker", number)


class Alive(unittest.TestCase):
    def alive(self, text, *deeds):
        """What is told to be alive of a maker of the first function, behind these deeds; its params hold another one."""
        run = plain(text)
        head = text.split(";")[0].split()
        worth = maker(run.begin("other")) if "maker other" in text else 7
        k = run.begin(head[1], [worth] * len(head[2:]))
        done(run, *[(way, k, *rest) for way, *rest in deeds])
        return run.alive(k)

    def check(self, text, expected, *deeds):
        self.assertEqual(tuple(expected.split()), self.alive(text, *deeds), (text, deeds))

    OTHER = "; maker other; while 1; give x 1; end; end"

    def test_new_ones_from_the_beginning_of_the_body(self):
        for body, expected in [
            ("", ""), ("say 1", ""), ("say a", "a"), ("say (c + (b * a))", "a b c"), ("set a b", "b"), ("set a 1; say a", ""),
            ("set a (a + 1); say a", "a"), ("say a; set a 1", "a"), ("give a b; say a", "b"), ("return c", "c"),
            ("throw a", "a"), ("close b", "b"), ("all a b; say a", "b"), ("make a f a , b , c; say a", "a b c"),
            ("ask a b , c; end; say a", "b c"), ("toss a b , c; say a; end", "b c"), ("say z; say y", "y z"),
            ("say b; say aa; say ab; say a", "a aa ab b"),
        ]:
            self.check("maker f a b c; " + body + "; end", expected)

    def test_none_of_one_that_is_over(self):
        for text in ["maker f a; say a; end", "maker f a; throw a; end"]:
            self.check(text, "a")
            self.check(text, "", ("ask",))
            self.check(text, "", ("toss", 3))
            self.check(text, "", ("close",))
        self.check("maker f a; give x 1; say a; end", "a", ("ask",))
        self.check("maker f a; give x 1; say a; end", "", ("ask",), ("close",))

    def test_nothing_is_alive_behind_what_leaves(self):
        for row in ["return 1", "throw 1", "return none"]:
            self.check("maker f a; " + row + "; say a; end", "")
            self.check("maker f a; if 1; " + row + "; say a; end; say b; end", "b")
            self.check("maker f a; try; " + row + "; say a; catch e; say b; finally; say c; end; say d; end",
                       "b c d")
            self.check("maker f a; try; " + row + "; say a; finally; say c; end; say d; end", "c")
        self.check("maker f a; while 1; break; say a; end; say b; end", "b")
        self.check("maker f a; while 1; again; say a; end; say b; end", "b")

    def test_each_choice_may_go_either_way(self):
        self.check("maker f; if 1; say a; else; say b; end; say c; end", "a b c")
        self.check("maker f; if 0; set c 1; end; say c; end", "c")
        self.check("maker f; if 0; set c 1; else; set c 2; end; say c; end", "")
        self.check("maker f; while 0; say a; end; end", "a")
        self.check("maker f; while 1; say a; end; say b; end", "a b")
        self.check("maker f; while 1; say a; set a 1; say b; set c 1; end; say c; end", "a b c")
        self.check("maker f; while 1; set a 1; end; say a; end", "a")
        self.check("maker f m; ask a m , 0; say b; end; say c; end", "b c m")
        self.check("maker f m; ask a m , 0; set c 1; end; say c; end", "c m")
        self.check("maker f m; ask a m , 0; say a; end; say a; end", "m")

    def test_around_a_while(self):
        text = "maker f n; while (n < 9); give x n; set n (n + 1); if (n = k); again; end; say k; set k 1; end; end"
        self.check(text, "k n")
        self.check(text, "k n", ("ask",))
        text = "maker f; while 1; give x a; set a 1; say b; break; end; say c; end"
        self.check(text, "a b c")
        self.check(text, "b c", ("ask",))

    FAULTY = [
        "set z 1", "say 1", "give z 1", "if 1; end", "while 1; end", "return 1", "throw 1", "make z other", "ask z 1 , 1; end",
        "toss z 1 , 1; end", "close 1", "all z 1",
    ]

    def test_a_fault_may_come_at_each_statement(self):
        for row in self.FAULTY:
            self.check("maker f; try; " + row + "; return 1; catch e; say a; end; end" + self.OTHER, "a")
            # There a fault comes ahead of what it does: its box may still hold what it held.
            self.check("maker f; try; " + row + "; return 1; catch e; say z; end; end" + self.OTHER, "z")

    def test_no_fault_comes_at_others(self):
        for row in ["break", "again"]:
            self.check("maker f; while c; try; " + row + "; catch e; say a; end; end; end", "c")
            self.check("maker f; while c; try; set a 1; " + row + "; catch e; say a; end; end; end", "a c")
        self.check("maker f; try; try; finally; set b 1; end; catch e; say b; end; end", "b")
        self.check("maker f; try; try; catch d; say 9; end; catch e; say b; end; end", "")
        # At the end of a final what was returned goes on, and no fault comes there any more.
        text = "maker f; try; try; give x 1; return 2; finally; give y 3; end; catch e; say a; end; end"
        self.check(text, "a", ("ask",), ("ask",))

    def test_a_fault_sets_the_box_that_catches_it(self):
        self.check("maker f; try; throw 1; catch e; say e; say a; end; end", "a")
        self.check("maker f; try; throw e; catch e; say e; end; end", "e")
        self.check("maker f; try; throw 1; catch e; say 1; end; say e; end", "")

    def test_a_fault_goes_to_the_nearest_that_catches_it(self):
        self.check("maker f; try; try; throw 1; catch e; end; catch d; say a; end; end", "")
        self.check("maker f; try; try; throw 1; catch e; say 1; end; catch d; say a; end; end", "a")
        self.check("maker f; try; try; throw 1; finally; set a 1; end; catch d; say a; end; end", "a")
        self.check("maker f; try; try; throw 1; finally; try; set a 1; catch c; set a 2; end; end; catch d; say a; end; end", "a")
        self.check("maker f; try; try; return 1; finally; say 1; end; catch d; say a; end; end", "a")

    def test_where_it_stands_it_may_be_asked_tossed_and_closed(self):
        self.check("maker f; give x a; say x; say b; end", "b", ("ask",))
        self.check("maker f; give x a; say 1; end", "", ("ask",))
        self.check("maker f; try; give x a; catch e; say x; say e; say b; end; end", "b x", ("ask",))
        self.check("maker f; try; give x a; finally; say x; say b; end; end", "b x", ("ask",))
        self.check("maker f; try; give x a; catch x; say x; end; say x; end", "", ("ask",))
        # Of the closing alone: what is caught and what goes on set c ahead.
        text = "maker f; try; try; give c a; catch c; end; finally; say c; end; end"
        self.check(text, "c", ("ask",))
        self.check("maker f; try; give c a; catch c; end; say c; end", "", ("ask",))

    def test_where_it_stands_at_an_all(self):
        for body, expected in [
            ("all m m; say m; say b", "b"), ("try; all y m; catch e; say y; end", "y"), ("all y m; say y; say m", "m"),
            ("try; all y m; finally; say y; end", "y"), ("all y m", ""), ("try; try; all c m; catch c; end; finally; say c; end", "c"),
        ]:
            self.check("maker f m; " + body + "; end" + self.OTHER, expected, ("ask",))

    def test_closed_the_nearest_final_is_done_and_then_the_next(self):
        text = "maker f; try; try; give x 1; finally; give y 2; say a; end; say b; finally; say c; end; say d; end"
        self.check(text, "a b c d", ("ask",))
        self.check(text, "a b c d", ("ask",), ("ask",))
        self.check(text, "a c", ("ask",), ("close",))
        self.check(text, "a c", ("ask",), ("toss", 3))
        text = "maker f; try; try; give x 1; finally; give y 2; say a; end; say b; catch e; say c; end; say d; end"
        # Closed again, or tossed: a fault is caught also where a closing was on its way.
        self.check(text, "a c d", ("ask",), ("close",))
        self.check(text, "a b c d", ("ask",), ("ask",))
        self.check(text, "a c d", ("ask",), ("toss", 3))

    def test_to_where_several_ways_lead(self):
        self.check("maker f; try; try; say 7; catch c; end; finally; set a c; end; end", "c")
        self.check("maker f; try; give d 1; catch a; give b 1; end; say 7; give a b; end", "b")
        self.check("maker f; try; set n 1; catch b; finally; try; say 2; catch b; finally; give a b; end; end; end", "b")

    FINAL = """
        maker f n; while 1
        try; give x 1; if (x = 1); break; end; if (x = 2); again; end; if (x = 3); return r; end; if (x = 4); throw t; end
        finally; give y 2; end; say e; end; say b; end
    """

    def test_behind_a_final_it_goes_on_as_it_came(self):
        self.check(self.FINAL, "b e r t", ("ask",))
        for sent, expected in [(1, "b"), (2, "b e r t"), (3, ""), (4, ""), (5, "b e r t")]:
            self.check(self.FINAL, expected, ("ask",), ("ask", sent))
        self.check(self.FINAL, "", ("ask",), ("close",))
        self.check(self.FINAL, "", ("ask",), ("toss", 3))

    def test_finals_in_finals(self):
        text = """
            maker f; try; give x 1; if x; return 5; end
            finally; try; give y 2; if y; throw 6; end; finally; give z 3; say a; end; say b; end
            say c; end
        """
        self.check(text, "a b c", ("ask",))
        self.check(text, "a b c", ("ask",), ("ask", 0))
        self.check(text, "a b", ("ask",), ("ask", 1))
        self.check(text, "a b", ("ask",), ("close",))
        self.check(text, "a b c", ("ask",), ("ask", 0), ("ask", 0))
        self.check(text, "a b", ("ask",), ("ask", 1), ("ask", 0))
        self.check(text, "a", ("ask",), ("ask", 0), ("ask", 1))
        self.check(text, "a", ("ask",), ("ask", 1), ("close",))
        self.check(text, "a", ("ask",), ("ask", 1), ("toss", 7))

    def test_a_final_in_a_final_that_was_come_to_in_two_ways(self):
        text = """
            maker f; try; give x 1; if x; return 5; end
            finally; try; try; give y 2; return 6; finally; give z 3; throw 7; end; catch e; say a; end; say b; end
            say c; end
        """
        for first, expected in [(0, "a b c"), (1, "a b"), (0, "a b c")]:
            self.check(text, expected, ("ask",), ("ask", first))
            self.check(text, expected, ("ask",), ("ask", first), ("ask",))
            self.check(text, expected, ("ask",), ("ask", first), ("close",))
        run = plain(text)
        for order in ([0, 1], [1, 0]):
            run = plain(text)
            for worth in order:
                k = run.begin("f")
                done(run, ("ask", k), ("ask", k, worth), ("ask", k))
                self.assertEqual(("a", "b") if worth else ("a", "b", "c"), run.alive(k))

    def test_the_final_of_a_second_body(self):
        text = "maker f; try; throw 1; catch e; give x e; say a; finally; say b; set c 1; end; say c; end"
        self.check(text, "a b", ("ask",))
        text = "maker f; try; throw 1; catch e; give e e; say a; finally; say e; end; end"
        self.check(text, "a e", ("ask",))

    def test_in_the_bodies_of_pulls_ifs_and_whiles(self):
        text = "maker f m; ask y m , 0; give x y; say a; end; say b; end; maker other; end"
        self.check(text, "a b", ("ask",))
        text = "maker f m; if 1; give x 1; say a; else; say c; end; say b; end; maker other; end"
        self.check(text, "a b", ("ask",))
        text = "maker f m; if 0; say a; else; give x 1; say c; end; say b; end; maker other; end"
        self.check(text, "b c", ("ask",))

    def test_boxes_that_hold_nothing_and_params_alike(self):
        self.check("maker f a b; give x 1; say z; say b; end", "b z", ("ask",))


class Held(unittest.TestCase):
    TEXT = "maker f a b c; %s; end; maker other; while 1; give x 1; end; end"

    def held(self, body, worths, *deeds, others=4):
        """Which makers are held by one of this body, made of these worths, behind these deeds."""
        run = plain(self.TEXT % body)
        for _ in range(others):
            run.begin("other")
        k = run.begin("f", worths)
        done(run, *[(way, k, *rest) for way, *rest in deeds])
        return run.held(k)

    THREE = [maker(3), maker(1), maker(2)]

    def test_new_ones(self):
        self.assertEqual([3, 1, 2], self.held("say a; say b; say c", self.THREE))
        self.assertEqual([3, 1, 2], self.held("say c; say b; say a", self.THREE))
        self.assertEqual([1], self.held("say b; set a 1; say a", self.THREE))
        self.assertEqual([], self.held("say 1", self.THREE))
        self.assertEqual([2], self.held("say a; say b; say c", [None, 7, maker(2)]))

    def test_each_once(self):
        self.assertEqual([2, 1], self.held("say a; say b; say c", [maker(2), maker(1), maker(2)]))
        self.assertEqual([2], self.held("say a; all y a; say b; say a", [maker(2), maker(2), 1], ("ask",)))

    def test_by_the_names_of_the_boxes(self):
        body = "set z a; set aa b; set m c; set a 0; give x 1; say z; say m; say aa; say a"
        self.assertEqual([1, 2, 3], self.held(body, self.THREE, ("ask",)))

    def test_only_boxes_that_are_alive(self):
        self.assertEqual([3, 2], self.held("give x 1; say a; say c", self.THREE, ("ask",)))
        self.assertEqual([2], self.held("give a 1; say a; say c", self.THREE, ("ask",)))
        self.assertEqual([], self.held("give x 1; set a 1; say a; set b c", [maker(3), maker(1), 4], ("ask",)))

    def test_none_by_those_that_are_over(self):
        for deed in [("toss", 3), ("close",)]:
            self.assertEqual([], self.held("give x 1; say a; say b", self.THREE, deed))
            self.assertEqual([], self.held("give x 1; say a; say b", self.THREE, ("ask",), deed))
        self.assertEqual([], self.held("return a; say b", self.THREE, ("ask",)))

    def test_those_that_are_over_are_held(self):
        run = plain("maker f m; give x 1; say m; end; maker g; end")
        run.begin("g")
        run.close(1)
        run.begin("f", [maker(1)])
        self.assertEqual([1], run.held(2))
        run.ask(2)
        self.assertEqual([1], run.held(2))

    def test_itself(self):
        run = plain("maker f; give x 1; give y 2; say x; end")
        run.begin("f")
        done(run, ("ask", 1), ("ask", 1, maker(1)))
        self.assertEqual([1], run.held(1))

    def test_the_one_of_its_all_comes_last(self):
        self.assertEqual([1, 3], self.held("all a a; say b", self.THREE, ("ask",)))
        self.assertEqual([3, 1], self.held("all y b; say a; say b", self.THREE, ("ask",)))
        self.assertEqual([1, 2, 3], self.held("all y a; say b; say c", self.THREE, ("ask",)))
        self.assertEqual([], self.held("all y a; give x 1; say y", self.THREE, ("ask",), ("toss", 3)))

    def test_the_one_of_its_all_no_more_behind_it(self):
        run = plain("maker f m; all y m; give x 1; say y; end; maker g; give x 1; end")
        run.begin("g")
        run.begin("f", [maker(1)])
        self.assertEqual([1], run.held(2))
        run.ask(2)
        self.assertEqual([1], run.held(2))
        run.ask(2)
        self.assertEqual(["stands", []], [run.state(2), run.held(2)])

    def test_the_worth_of_a_return_whose_final_is_being_done(self):
        self.assertEqual([3], self.held("try; return a; finally; give x 1; end", self.THREE, ("ask",)))
        self.assertEqual([], self.held("try; return 7; finally; give x 1; end", self.THREE, ("ask",)))
        # Behind the boxes, whatever their names, and ahead of the one of the all.
        self.assertEqual([1, 3], self.held("try; return a; finally; give x 1; set z b; give x 1; say z; end", self.THREE,
                                           ("ask",), ("ask",)))
        self.assertEqual([1, 3, 2], self.held("try; return a; finally; all y c; say b; end", self.THREE, ("ask",)))
        self.assertEqual([3, 2], self.held("try; return a; finally; all y c; say a; end", self.THREE, ("ask",)))

    def test_the_next_final_of_the_same_return(self):
        body = "try; try; return a; finally; give x 1; end; finally; give x 2; end"
        self.assertEqual([3], self.held(body, self.THREE, ("ask",)))
        self.assertEqual([3], self.held(body, self.THREE, ("ask",), ("ask",)))

    def test_only_where_some_way_comes_to_the_end_of_that_final(self):
        for row in ["return 1", "throw 1", "while 1; give x 1; return 1; end; throw 2"]:
            self.assertEqual([], self.held("try; return a; finally; give x 1; " + row + "; end", self.THREE, ("ask",)), row)
            body = "try; return a; finally; give x 1; if 1; " + row + "; end; end"
            self.assertEqual([3], self.held(body, self.THREE, ("ask",)), row)
        # The end of that final, be it that another one further out never comes to its end.
        body = "try; try; return a; finally; give x 1; end; finally; throw 1; end"
        self.assertEqual([3], self.held(body, self.THREE, ("ask",)))
        body = "try; try; return a; finally; throw 1; end; finally; give x 1; end"
        self.assertEqual([], self.held(body, self.THREE, ("ask",)))

    def test_another_doing_of_that_final_is_not_that_one(self):
        body = "while b; try; return a; finally; give x 1; again; end; end"
        self.assertEqual([3, 1], self.held(body, self.THREE, ("ask",)))
        body = "while b; try; set d a; set a c; return d; finally; give x 1; again; end; end"
        self.assertEqual([2, 1], self.held(body, self.THREE, ("ask",)))
        body = """
            set d a; set a c; while b
            try; set e d; set d 0; return e; finally; if b; set b 0; give x 1; again; end; end; end
        """
        # Asked, it returns anew and comes to the end of the final: but not with what it was to return.
        self.assertEqual([], self.held(body, self.THREE, ("ask",)))

    def test_the_outermost_first(self):
        # Three finals, one in the other: a break out of the innermost one, and then out of the middle one.
        body = """
            try; return a; finally
            while 1; try; return b; finally
            while 1; try; return c; finally; give x 1; %s; end; end
            %s; end; end
            end
        """
        for rows, held in [
            (("break", "break"), [1]), (("if x; break; end", "break"), [1, 3]), (("break", "if x; break; end"), [1, 2]),
            (("if x; break; end", "if x; break; end"), [1, 2, 3]), (("say 1", "say 1"), [3]), (("throw 1", "say 1"), []),
        ]:
            for worths in ([1, 2, 3], [3, 1, 2], [2, 3, 1]):
                expected = [worths[number - 1] for number in held]
                self.assertEqual(expected, self.held(body % rows, [maker(number) for number in worths], ("ask",)), rows)

    def test_a_return_that_another_one_takes_the_place_of(self):
        body = "try; return a; finally; try; return b; finally; give x 1; end; end"
        self.assertEqual([1], self.held(body, self.THREE, ("ask",)))
        body = "try; return a; finally; try; try; return b; finally; give x 1; end; catch e; say e; end; end"
        self.assertEqual([3, 1], self.held(body, self.THREE, ("ask",)))

    def test_faults_and_closings_hold_none(self):
        body = "try; give x 1; return a; finally; give x 2; end"
        for deed, held in [(("ask",), [3]), (("toss", 3), []), (("close",), [])]:
            self.assertEqual(held, self.held(body, self.THREE, ("ask",), deed))

    def test_by_the_maker_that_asks(self):
        run = plain("""
            maker f; make m g; ask y m , 0; end; give x 1; ask z m , 0; end; end
            maker g; make m h; give x 1; ask y m , 0; end; end; maker h; end
        """)
        run.begin("f")
        self.assertEqual([], run.held(1))
        run.ask(1)
        self.assertEqual([[2], [3], []], [run.held(k) for k in (1, 2, 3)])


if __name__ == "__main__":
    unittest.main()
