"""[4.1]: tables made of functions, and by them machines that tell what plain runs tell."""

import unittest

from byrows import Rows, alive_rows, steps
from chance import chance_book, chance_deeds, chosen
from frozenmakers.books import Function
from frozenmakers.errors import TooLong
from frozenmakers.making import made
from frozenmakers.plain import Plain
from frozenmakers.tables import Table, is_table
from samples import book

LEAVING = ["say 1", "return a", "throw a", "break", "again", "give a 2", "all m m", "set a (a + 1)", "close m", "say (none + 1)"]
# Each statement with bodies, and where these stand in it.
AROUND = [
    "if x; %s; end", "if x; say 3; else; %s; end", "while (x < 2); set x (x + 1); %s; end", "try; %s; catch e; say e; end",
    "try; %s; finally; give z 3; end", "try; give z 4; throw 5; catch e; %s; end", "try; give z 4; finally; %s; end",
    "try; throw 6; catch e; %s; finally; give e e; end", "ask z m , 1; say 4; end; %s", "toss z m , 2; %s; end",
]
OTHER = "; maker other m n; try; give m n; give n m; catch e; give e e; return m; finally; say 7; end; return n; end"


class Both:
    """A plain run and a machine by made tables; what they tell is the same, what is alive is as their makers stand."""

    def __init__(self, case, whole, most=300):
        self.case = case
        self.book = whole
        self.plain = Plain(whole, most=most)
        tables = {function.name: made(function) for function in whole.functions}
        self.rows = Rows(tables)
        for function in whole.functions:
            table = tables[function.name]
            case.assertIs(True, is_table(table, whole))
            case.assertEqual((function.name, function.params), (table.name, table.params))
            case.assertLessEqual(len(table.rows), 3000)
            # Asked again the same, but another one.
            case.assertEqual(table, made(function))
            case.assertIsNot(table.lands, made(function).lands)

    def begin(self, name, worths=()):
        self.case.assertEqual(self.plain.begin(name, worths), self.rows.begin(name, worths))
        self.look()
        return len(self.plain)

    def deed(self, way, number, *sent):
        """What is told; None where the plain run goes too far."""
        try:
            told = getattr(self.plain, way)(number, *sent)
        except TooLong:
            return None
        self.case.assertEqual(told, self.rows.told(way, number, *sent))
        self.look()
        return told

    def look(self):
        case = self.case
        case.assertEqual(self.plain.said(), self.rows.said)
        case.assertEqual(len(self.plain), len(self.rows.makers))
        for number, maker in self.rows.makers.items():
            case.assertEqual(self.plain.state(number), maker.stage)
            kept = [box for box in self.rows.kept(number) if box.isalpha()]
            case.assertEqual(list(self.plain.alive(number)), kept)
            case.assertEqual(self.plain.held(number), self.rows.held(number))

    def by_chance(self, seed, many):
        for deed in chance_deeds(seed, many):
            way, *rest = chosen(deed, self.book, self.plain)
            if way == "begin":
                self.begin(*rest)
            else:
                self.deed(way, *rest)


class Made(unittest.TestCase):
    def test_a_small_one(self):
        table = made(book("maker f a; while (a < 3); give a (a + 1); end; return a; end").functions[0])
        self.assertIsInstance(table, Table)
        self.assertEqual("if", table.rows[0][0])
        self.assertEqual({"if", "give", "return"}, {row[0] for row in table.rows})
        self.assertEqual([{}, {}], [table.lands, table.closes])

    def test_by_name(self):
        function = Function("f", (), ())
        self.assertEqual(made(function), made(function=function))

    def test_the_empty_body(self):
        whole = book("maker f; end; maker g a b c; end")
        both = Both(self, whole)
        for name, worths in [("f", ()), ("g", (1, None, 3))]:
            k = both.begin(name, worths)
            self.assertEqual([("ended", None), ("ended", None)], [both.deed("ask", k, 5), both.deed("ask", k)])

    def test_bodies_that_begin_with_others(self):
        for body in [
            "try; finally; say 1; end", "try; catch e; end", "if a; end", "if a; say 1; end", "return a", "throw a",
            "try; try; try; catch e; end; finally; give x 1; end; finally; say 2; end", "try; return a; finally; say 1; end",
            "while 0; end", "while a; end", "while a; break; end", "while a; set a 0; again; end",
            "while a; while a; while a; set a 0; end; end; end", "while a; try; break; finally; say 1; set a 0; again; end; end",
        ]:
            both = Both(self, book("maker f a; " + body + "; end"))
            for worth in (0, 1, None):
                k = both.begin("f", [worth])
                both.deed("ask", k)
                both.deed("ask", k, 2)

    def test_statements_behind_those_that_leave(self):
        for row in ["return a", "throw a", "break", "again"]:
            for around in ["%s", "try; %s; finally; say 2; end", "try; %s; catch e; say e; give e e; end", "if a; %s; end"]:
                text = "maker f a; set n 0; while (n < 2); set n (n + 1); " + around + "; say 4; end; give b c; end"
                rows = row + "; say d; give d d; while d; end; try; all d d; finally; say d; end"
                both = Both(self, book(text % rows))
                for deed in [("ask", 3), ("toss", 4), ("close",)]:
                    k = both.begin("f", [3])
                    both.deed("ask", k)
                    both.deed(deed[0], k, *deed[1:])
                    both.deed("ask", k, 5)

    def test_all_rows_are_come_to(self):
        for seed in range(40):
            for function in chance_book(seed).functions:
                table = made(function)
                seen, waiting = {0}, [0]
                while waiting:
                    for to, _ in steps(table, waiting.pop()):
                        if to not in seen:
                            seen.add(to)
                            waiting.append(to)
                self.assertEqual(len(table.rows), len(seen))

    def test_each_way_out_of_all_bodies_two_deep(self):
        for outer in AROUND:
            for inner in AROUND:
                for row in LEAVING:
                    text = "maker f m; set a 0; %s; say 8; return 9; end"
                    body = outer % ("try; " + inner % row + "; finally; give y x; end")
                    if row in ("break", "again") and "while" not in outer + inner:
                        body = "set w 0; while (w < 2); set w (w + 1); " + body + "; end"
                    both = Both(self, book(text % body + OTHER))
                    for last in [("ask", 4), ("toss", 5), ("close",)]:
                        k = both.begin("f", [("maker", both.begin("other", [2, 3]))])
                        told = both.deed("ask", k)
                        while told is not None and told[0] == "gave" and len(both.plain.said()) < 40:
                            told = both.deed("ask", k, 4) if last[0] == "ask" else both.deed(last[0], k, *last[1:])

    def test_four_deep(self):
        for at in range(len(AROUND)):
            for row in LEAVING:
                body = row
                for more in (at, at + 3, at + 4, at + 7):
                    body = AROUND[more % len(AROUND)] % body
                if row in ("break", "again") and "while" not in body:
                    continue
                text = "maker f m; set a 0; set x 0; " + body + "; say 8; end" + OTHER
                both = Both(self, book(text))
                for way in [("ask", 1), ("toss", 5), ("close",)]:
                    k = both.begin("f", [("maker", both.begin("other", [2, 3]))])
                    for deed in [("ask",), ("ask", 0), way, ("ask", 2), way, way]:
                        both.deed(deed[0], k, *deed[1:])

    def test_finals_in_finals_four_deep(self):
        # Each final is come to in all ways, and there is much in the innermost one.
        inner = "; ".join(["give x x; say a; set b c"] * 5)
        body = "try; give x 1; finally; " + inner + "; end"
        for _ in range(3):
            body = "try; give x 1; if x; return d; end; finally; " + body + "; end"
        both = Both(self, book("maker f a b c d; " + body + "; end"))
        both.begin("f", [1, 2, 3, 4])
        for sent in range(16):
            k = both.begin("f", [1, 2, 3, ("maker", 1)])
            both.deed("ask", k)
            for at in range(4):
                both.deed("ask", k, sent // 2 ** at % 2)
            for _ in range(5):
                both.deed("ask", k)
        for way in [("toss", 3), ("close",)]:
            for count in range(8):
                k = both.begin("f", [1, 2, 3, ("maker", 1)])
                both.deed("ask", k)
                for at in range(count):
                    deed = way if at % 3 == count % 3 else ("ask", at % 2)
                    both.deed(deed[0], k, *deed[1:])
                both.deed(way[0], k, *way[1:])

    def test_a_final_in_a_final_goes_on_as_both_were_come_to(self):
        for inner in [
            "try; try; give y 2; return 6; finally; give z 3; throw 7; end; catch e; say a; end",
            "while 1; try; give y 2; return 6; finally; give z 3; break; end; end; say a",
        ]:
            both = Both(self, book("maker f; try; give x 1; if x; return 5; end; finally; " + inner + "; end; say b; end"))
            for worth in (0, 1):
                k = both.begin("f")
                told = [both.deed("ask", k), both.deed("ask", k, worth), both.deed("ask", k, 0), both.deed("ask", k)]
                self.assertEqual(("ended", 5 if worth else None), told[-1])

    def test_what_returns_hold(self):
        for body in [
            "try; try; return a; finally; give x 1; end; finally; throw 1; end",
            "try; try; return a; finally; throw 1; end; finally; give x 1; end",
            "try; return a; finally; while 1; try; return b; finally; give x 1; if x; break; end; end; end; end",
            "while b; try; set d a; set a c; return d; finally; give x 1; again; end; end",
            "try; return a; finally; try; throw 1; catch e; give x 1; finally; try; return b; finally; give x 2; end; end; end",
            "try; try; return a; finally; give x 1; end; catch e; give y e; end",
        ]:
            both = Both(self, book("maker f a b c; " + body + "; end; maker g; end"))
            for _ in range(3):
                both.begin("g")
            for deeds in [["ask"] * 4, ["ask", "toss", "ask", "toss"], ["ask", "close", "ask", "close"], ["ask", "ask", "close"]]:
                k = both.begin("f", [("maker", 3), ("maker", 1), ("maker", 2)])
                for way in deeds:
                    both.deed(way, k, *([1] if way != "close" else []))

    def test_by_chance(self):
        for seed in range(250):
            Both(self, chance_book(seed), most=150).by_chance(seed, 20)


class Alive(unittest.TestCase):
    def test_at_row_0_those_of_a_new_maker_and_others_of_its_own_with_a_figure(self):
        for seed in range(60):
            whole = chance_book(seed)
            run = Plain(whole)
            for function in whole.functions:
                table = made(function)
                alive, behind = alive_rows(table)
                k = run.begin(function.name, [None] * len(function.params))
                self.assertEqual(run.alive(k), tuple(sorted(alive[0])))
                own = {box for found in alive + behind for box in found if not box.isalpha()}
                self.assertTrue(all(box.isalnum() and box == box.lower() and len(box) <= 8 for box in own))

    def test_one_statement_stands_at_several_rows(self):
        text = "maker f n; while 1; try; give x 1; if (x = 1); break; end; finally; give y 2; end; say a; end; say b; end"
        table = made(book(text).functions[0])
        alive, behind = alive_rows(table)
        found = sorted(sorted(behind[at]) for at, row in enumerate(table.rows) if row[:2] == ("give", "y"))
        # Closed, by a fault, by a break, by the end: then the while is asked again.
        self.assertEqual([[], ["a", "b"], ["b"], ["p01"]], found)


if __name__ == "__main__":
    unittest.main()
