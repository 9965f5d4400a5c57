"""[5.1]: what is alive at the rows of tables, ways as papers of that, lists that are closed."""

import unittest

from byrows import alive_rows, reads, steps
from chance import chance_book
from drawn import drawn, is_way, least_way
from frozenmakers.alive import alive, is_closed, kept, read_way, shows_alive
from frozenmakers.errors import NoRow, NoWay
from frozenmakers.making import made
from frozenmakers.tables import Table
from samples import Same, Wild, refused, things

A, B, C = ("box", "a"), ("box", "b"), ("box", "c")
ONE = ("number", 1)
NONE = ("none",)


def table(*rows, lands=None, closes=None):
    return Table("f", (), rows, lands=lands, closes=closes)


def no_rows(many):
    """Things that are no number of one of so many rows."""
    found = [-1, many, many + 1, 10 ** 9, True, False, 0.0, 1.0, "0", None, (0,), [0], "to", Same(), Wild()] + things()
    return [each for each in found if type(each) is not int or not 0 <= each < many]


class Alive(unittest.TestCase):
    def told(self, found, *rows, **more):
        got = alive(table(*rows, **more))
        self.assertIs(list, type(got))
        self.assertEqual([tuple] * len(rows), [type(each) for each in got])
        self.assertEqual(found, [" ".join(each) for each in got])

    def test_what_a_row_reads_itself(self):
        end = ("end",)
        for row, found in [
            (("set", "c", A, 1), "a"), (("set", "a", A, 1), "a"), (("say", A, 1), "a"), (("if", A, 1, 1), "a"),
            (("make", "c", "f", (B, A, ("plus", A, ("box", "p01"))), 1), "a b p01"), (("give", "c", A, 1), "a"),
            (("pull", "c", "ask", B, A, 1, 1), "a b"), (("pull", "b", "toss", A, B, 1, 1), "a b"), (("close", A, 1), "a"),
            (("all", "c", A, 1), "a"), (("all", "a", A, 1), "a"), (("throw", A), "a"), (("return", A), "a"), (end, ""),
            (("say", ("same", ("plus", B, ("less", A, C)), ("times", ("number", 3), ("under", A, NONE))), 1), "a b c"),
            (("say", ONE, 1), ""), (("say", NONE, 1), ""), (("make", "a", "f", (), 1), ""),
        ]:
            self.told([found, ""], row, end)

    def test_of_one_row(self):
        self.told([""], ("end",))
        self.told(["a"], ("return", A))
        self.told(["a"], ("say", A, 0))
        self.told(["a"], ("set", "a", A, 0))
        self.told([""], ("set", "a", ONE, 0))
        self.told(["a"], ("give", "b", A, 0), closes={0: 0}, lands={0: (0, "a")})

    def test_a_box_that_is_set_on_a_step(self):
        last = ("return", A)
        for row in [("set", "a", ONE, 1), ("make", "a", "f", (), 1), ("give", "a", ONE, 1), ("pull", "a", "ask", ONE, ONE, 1, 1),
                    ("all", "a", ONE, 1)]:
            self.told(["", "a"], row, last)
            self.told(["a", "a"], (row[0], "b", *row[2:]), last)
        for row in [("say", ONE, 1), ("if", ONE, 1, 1), ("close", ONE, 1)]:
            self.told(["a", "a"], row, last)

    def test_each_step_of_two(self):
        self.told(["a b", "a", "b"], ("if", ONE, 1, 2), ("return", A), ("return", B))
        self.told(["a b", "a", "b"], ("pull", "c", "ask", ONE, ONE, 1, 2), ("return", A), ("return", B))
        for box, found in [("a", "b"), ("b", "a")]:
            # The box is set on its to and on its over.
            self.told([found, "a", "b"], ("pull", box, "ask", ONE, ONE, 1, 2), ("return", A), ("return", B))
        self.told(["", "c"], ("pull", "c", "ask", ONE, ONE, 1, 1), ("return", C))

    def test_where_a_fault_lands(self):
        rows = [("set", "b", ONE, 1), ("end",), ("return", ("plus", A, ("plus", B, C)))]
        self.told(["", "", "a b c"], *rows)
        # The box that is set by what the row does isn't set where its fault lands, its lands' box is.
        self.told(["b c", "", "a b c"], *rows, lands={0: (2, "a")})
        self.told(["a c", "", "a b c"], *rows, lands={0: (2, "b")})
        self.told(["a b c", "", "a b c"], *rows, lands={0: (2, "z")})
        # At whatever row.
        for row in [("say", ONE, 1), ("if", ONE, 1, 1), ("make", "a", "f", (), 1), ("give", "a", ONE, 1), ("close", ONE, 1),
                    ("pull", "a", "ask", ONE, ONE, 1, 1), ("all", "a", ONE, 1), ("throw", ONE), ("return", ONE), ("end",)]:
            self.told(["a c", "", "a b c"], row, *rows[1:], lands={0: (2, "b")})

    def test_where_a_closing_goes_on(self):
        last = ("return", ("plus", A, B))
        for row in [("give", "a", ONE, 1), ("all", "a", ONE, 1)]:
            self.told(["", "", "a b"], row, ("end",), last)
            # Nothing is set where it closes.
            self.told(["a b", "", "a b"], row, ("end",), last, closes={0: 2})
            self.told(["a b", "", "a b"], row, ("end",), last, closes={0: 2}, lands={0: (2, "b")})
            self.told(["b", "a b"], row, last)
            self.told(["a b", "a b"], row, last, closes={0: 1})

    def test_rows_to_which_nothing_leads(self):
        self.told(["", "a", "a b"], ("end",), ("return", A), ("set", "c", B, 1))

    def test_what_comes_round(self):
        self.told(["a b", "a b", "a b"], ("say", A, 1), ("say", ONE, 2), ("say", B, 0))
        self.told(["a", "a", "a b"], ("say", A, 1), ("set", "b", ONE, 2), ("say", B, 0))
        self.told(["", "", "b"], ("set", "a", ONE, 1), ("set", "b", ONE, 2), ("say", B, 0))

    def test_rising(self):
        boxes = ["zz", "a", "p01", "b9", "0", "9z", "aa", "p1", "a0", "none"]
        found = alive(table(("make", "q", "f", tuple(("box", box) for box in boxes), 0)))
        self.assertEqual([tuple(sorted(boxes))], found)

    def test_by_name_and_asked_again(self):
        one = table(("say", A, 1), ("return", B))
        found = alive(table=one)
        found[0] = ("c",)
        found.append(())
        self.assertEqual([("a", "b"), ("b",)], alive(one))
        self.assertEqual(table(("say", A, 1), ("return", B)), one)

    def test_drawn_ones(self):
        for seed in range(400):
            one = drawn(seed, 1 + seed % 13)
            self.assertEqual([tuple(sorted(each)) for each in alive_rows(one)[0]], alive(one), seed)

    def test_made_ones(self):
        for seed in range(60):
            for function in chance_book(seed).functions:
                one = made(function)
                self.assertEqual([tuple(sorted(each)) for each in alive_rows(one)[0]], alive(one), seed)

    def test_of_some_thousand_rows(self):
        many = 3000
        rows = [("set", "b", ONE, number + 1) for number in range(many - 1)] + [("return", ("plus", A, B))]
        self.assertEqual([("a",)] * (many - 1) + [("a", "b")], alive(table(*rows)))
        back = [("return", ("plus", A, B))] + [("set", "b", ONE, number) for number in range(many - 1)]
        self.assertEqual([("a", "b")] + [("a",)] * (many - 1), alive(table(*back)))
        one = drawn(1, many)
        self.assertEqual([tuple(sorted(each)) for each in alive_rows(one)[0]], alive(one))
        landing = table(*[("say", ONE, (number + 1) % many) for number in range(many)], lands={
            number: (number * 7 % many, "abc"[number % 3]) for number in range(many)
        })
        self.assertEqual([()] * many, alive(landing))


class Kept(unittest.TestCase):
    def test_what_is_alive_behind_the_row(self):
        for word in ("give", "all"):
            last = ("return", ("plus", A, B))
            # What is read there, and what is set there, isn't kept; what is read behind it is.
            self.assertEqual(("b",), kept(table((word, "a", C, 1), last), 0))
            self.assertEqual(("a", "b"), kept(table((word, "c", ("plus", A, C), 1), last), 0))
            self.assertEqual((), kept(table((word, "a", A, 1), ("return", A)), 0))
            self.assertEqual(("a", "b"), kept(table((word, "a", ONE, 1), last, closes={0: 1}), 0))
            self.assertEqual(("a", "b"), kept(table((word, "a", ONE, 1), last, lands={0: (1, "b")}), 0))
            self.assertEqual(("b",), kept(table((word, "a", ONE, 1), last, lands={0: (1, "a")}), 0))
            # It comes round to itself.
            self.assertEqual(("a",), kept(table((word, "b", A, 0)), 0))
            self.assertEqual((), kept(table((word, "a", A, 0)), 0))

    def test_rising(self):
        boxes = ["zz", "a", "p01", "b9", "0", "9z"]
        one = table(("give", "q", ONE, 1), ("make", "q", "f", tuple(("box", box) for box in boxes), 0))
        self.assertEqual(tuple(sorted(boxes)), kept(one, 0))
        self.assertIs(tuple, type(kept(table=one, number=0)))

    def test_drawn_ones(self):
        for seed in range(300):
            one = drawn(seed, 1 + seed % 13)
            behind = alive_rows(one)[1]
            for number, row in enumerate(one.rows):
                if row[0] in ("give", "all"):
                    self.assertEqual(tuple(sorted(behind[number])), kept(one, number), seed)
                else:
                    refused(self, NoRow, lambda: kept(one, number), number=number)

    def test_no_row(self):
        one = table(("give", "b", A, 1), ("say", A, 0), ("all", "b", A, 1))
        for number in no_rows(3) + [1]:
            refused(self, NoRow, lambda: kept(one, number), number=number)
        self.assertEqual([("a",), ("a",)], [kept(one, 0), kept(one, 2)])


class Ways(unittest.TestCase):
    def test_it_reads_it_itself(self):
        for row in [("say", A, 0), ("set", "a", A, 0), ("give", "a", ("plus", ONE, A), 0), ("throw", A)]:
            self.assertEqual([0], read_way(table(row), 0, "a"))

    def test_the_shortest_and_of_these_the_least(self):
        one = table(("if", ONE, 4, 1), ("if", ONE, 3, 2), ("say", A, 5), ("say", A, 5), ("say", ONE, 5), ("return", A))
        self.assertEqual([0, 1, 2], read_way(one, 0, "a"))
        one = table(("if", ONE, 4, 1), ("if", ONE, 3, 2), ("end",), ("say", A, 5), ("say", ONE, 5), ("return", A))
        self.assertEqual([0, 1, 3], read_way(one, 0, "a"))
        self.assertEqual([1, 3], read_way(one, 1, "a"))
        one = table(("if", ONE, 4, 1), ("say", ONE, 2), ("say", ONE, 5), ("end",), ("say", ONE, 5), ("return", A))
        self.assertEqual([0, 4, 5], read_way(one, 0, "a"))
        # Rows are the least as numbers, not as texts.
        rows = [("if", ONE, 10, 9)] + [("end",)] * 8 + [("say", ONE, 11), ("say", ONE, 11), ("return", A)]
        self.assertEqual([0, 9, 11], read_way(table(*rows), 0, "a"))

    def test_not_by_steps_that_set_it(self):
        one = table(("pull", "a", "ask", ONE, ONE, 1, 1), ("say", ONE, 2), ("return", A), lands={0: (3, "b")}, closes={})
        one = table(*one.rows, ("say", ONE, 4), ("say", ONE, 1), lands={0: (3, "b")})
        self.assertEqual([0, 3, 4, 1, 2], read_way(one, 0, "a"))
        one = table(("give", "a", ONE, 1), ("return", A), closes={0: 1})
        self.assertEqual([0, 1], read_way(one, 0, "a"))

    def test_no_row_then_no_way(self):
        one = table(("say", ONE, 1), ("set", "a", ONE, 2), ("return", A))
        for number in no_rows(3):
            for box in ("a", "b", None, Wild()):
                refused(self, NoRow, lambda: read_way(one, number, box), number=number)
        for number in (0, 1):
            refused(self, NoWay, lambda: read_way(one, number, "a"))
        for box in things() + ["b", "", "A", "none", b"a", ("box", "a"), ["a"], ("a",)]:
            for number in range(3):
                refused(self, NoWay, lambda: read_way(one, number, box))
        self.assertEqual([2], read_way(number=2, table=one, box="a"))

    def test_drawn_ones(self):
        for seed in range(150):
            one = drawn(seed, 1 + seed % 7)
            for number, boxes in enumerate(alive(one)):
                for box in ["a", "b", "m", "n", "p01", "x2"]:
                    if box not in boxes:
                        refused(self, NoWay, lambda: read_way(one, number, box))
                        continue
                    way = read_way(one, number, box)
                    self.assertEqual(least_way(one, number, box, 7), way, seed)
                    self.assertIs(list, type(way))
                    self.assertIs(True, shows_alive(one, number, box, way))

    def test_of_some_thousand_rows(self):
        many = 3000
        one = table(*[("if", ONE, (number + 1) % many, number) for number in range(many - 1)], ("return", A))
        self.assertEqual(list(range(many)), read_way(one, 0, "a"))
        self.assertIs(True, shows_alive(one, 0, "a", list(range(many))))
        self.assertIs(True, shows_alive(one, 0, "a", [0] * 5000 + list(range(many))))


class ShowsAlive(unittest.TestCase):
    ONE = table(("if", ONE, 1, 2), ("say", A, 0), ("set", "a", ONE, 3), ("say", A, 2), ("pull", "a", "ask", ONE, ONE, 1, 1),
                lands={4: (1, "b"), 2: (0, "b")})

    def right(self, number, *ways):
        for way in ways:
            self.assertIs(True, shows_alive(self.ONE, number, "a", way), way)
            self.assertIs(True, shows_alive(self.ONE, number, "a", tuple(way)), way)

    def wrong(self, number, *ways):
        for way in ways:
            self.assertIs(False, shows_alive(self.ONE, number, "a", way), way)
            if type(way) is list:
                self.assertIs(False, shows_alive(self.ONE, number, "a", tuple(way)), way)

    def test_ways(self):
        self.right(0, [0, 1], [0, 1, 0, 1], [0, 1, 0, 1, 0, 1], [0, 2, 0, 1], [0, 2, 0, 2, 0, 1])
        self.right(1, [1], [1, 0, 1], [1, 0, 2, 0, 1])
        self.right(3, [3], [3, 2, 0, 1])
        # Of two steps to the same row one doesn't set it.
        self.right(4, [4, 1], [4, 1, 0, 1])

    def test_no_ways(self):
        self.wrong(0, [], [0], [1], [0, 1, 0], [0, 2, 3], [0, 2], [1, 0, 1], [0, 0, 1], [0, 1, 1], [0, 3], [0, 1, 2], [2, 0, 1])
        self.wrong(0, [0, 1, 5], [0, -4], [0, 1, 0, -4], [0, 2, 3, 3], [0, 2, 0], [0, 1, None], [None], [0, "1"], [0, True],
                   [False, 1], [0.0, 1], [0, 1.0], [0, [1]], [0, (1,)], [[0, 1]], [0, Same()], [Same(), 1], [Wild(), 1], [0, Wild()])
        self.wrong(3, [3, 3], [3, 2], [3, 2, 3], [3, 2, 1])
        self.wrong(4, [4], [4, 0], [4, 4, 1])

    def test_steps_that_set_it(self):
        one = table(("give", "a", ONE, 1), ("return", A), lands={0: (1, "a")})
        self.assertIs(False, shows_alive(one, 0, "a", [0, 1]))
        one = table(("give", "a", ONE, 1), ("return", A), closes={0: 1})
        self.assertIs(True, shows_alive(one, 0, "a", [0, 1]))
        one = table(("give", "b", ONE, 1), ("return", A), lands={0: (1, "a")})
        self.assertIs(True, shows_alive(one, 0, "a", [0, 1]))

    def test_of_anything(self):
        for thing in things() + [range(2), iter([0, 1]), {0: 1, 1: 1}, {0, 1}, "01", b"01", 0, 1, "a", "to"]:
            for number in range(5):
                self.assertIs(False, shows_alive(self.ONE, number, "a", thing))
        for box in things() + ["b", "", "none", b"a", ("box", "a")]:
            for thing in ([0, 1], [0], []):
                self.assertIs(False, shows_alive(self.ONE, 0, box, thing))

    def test_no_row(self):
        for number in no_rows(5):
            for thing in ([0, 1], [number], None, Wild()):
                refused(self, NoRow, lambda: shows_alive(self.ONE, number, "a", thing), number=number)
                refused(self, NoRow, lambda: shows_alive(self.ONE, number, None, thing), number=number)
        self.assertIs(True, shows_alive(table=self.ONE, number=0, box="a", thing=[0, 1]))

    def test_spoilt_ways(self):
        for seed in range(120):
            one = drawn(seed, 2 + seed % 7)
            many = len(one.rows)
            for number, boxes in enumerate(alive(one)):
                for box in boxes:
                    way = read_way(one, number, box)
                    tries = [way[:at] + way[at + 1:] for at in range(len(way))]
                    for row in range(many):
                        tries += [way[:at] + [row] + way[at:] for at in range(len(way) + 1)]
                        tries += [way[:at] + [row] + way[at + 1:] for at in range(len(way))]
                    for each in tries:
                        right = len(each) > 0 and each[0] == number and is_way(one, each, box)
                        self.assertIs(right, shows_alive(one, number, box, each), (seed, each))


class IsClosed(unittest.TestCase):
    ONE = table(("if", B, 1, 2), ("say", A, 0), ("set", "a", ONE, 3), ("say", A, 2), ("end",), lands={2: (0, "b")})
    FOUND = [("a", "b"), ("a", "b"), ("a",), ("a",), ()]

    def test_the_list_of_alive(self):
        self.assertEqual(self.FOUND, alive(self.ONE))
        self.assertIs(True, is_closed(self.ONE, self.FOUND))
        self.assertIs(True, is_closed(thing=tuple(self.FOUND), table=self.ONE))
        self.assertIs(True, is_closed(self.ONE, [each[::-1] for each in self.FOUND]))

    def test_all_boxes(self):
        self.assertIs(True, is_closed(self.ONE, [("a", "b")] * 5))
        self.assertIs(True, is_closed(self.ONE, [("z", "b", "p01", "a")] * 5))

    def test_a_box_less_or_more(self):
        for at, boxes in enumerate(self.FOUND):
            for box in boxes:
                rest = tuple(each for each in boxes if each != box)
                self.assertIs(False, is_closed(self.ONE, self.FOUND[:at] + [rest] + self.FOUND[at + 1:]))

        def more(at, box):
            return is_closed(self.ONE, self.FOUND[:at] + [(*self.FOUND[at], box)] + self.FOUND[at + 1:])

        # To row 4 nothing leads; of row 2 the fault lands where b is alive, but it sets that; to row 2 leads row 0, which has b.
        self.assertEqual([True, True, True], [more(4, "a"), more(4, "b"), more(4, "z")])
        self.assertEqual([False, False, False], [more(2, "b"), more(3, "b"), more(0, "z")])

    def test_no_tuples_boxes_twice_and_others(self):
        self.assertIs(False, is_closed(self.ONE, [list(each) for each in self.FOUND]))
        for at in range(5):
            for boxes in [("a", "b", "a"), ("a", "b", "b"), ["a", "b"], "ab", {"a": 1, "b": 2}, {"a", "b"}, ("a", "b", None),
                          ("a", "b", ""), ("a", "b", "A"), ("a", "b", "abcdefghi"), ("a", "b", "a_"), ("a", "b", 1),
                          ("a", "b", ("c",)), ("a", "b", ["c"]), ("a", "b", Wild()), (Wild(), "a", "b"), (Same(), Same()),
                          ("a", "b", b"c"), None, 0, ("a", "b", "c d"), ("a", "b", "z\n")] + things():
                full = [("a", "b")] * 5
                full[at] = boxes
                if type(boxes) is not tuple or type(boxes[0]) is not str or boxes[0] != "nothing":
                    self.assertIs(False, is_closed(self.ONE, full), boxes)

    def test_of_anything(self):
        for thing in things() + [self.FOUND[:-1], self.FOUND + [()], [], [()] * 5, self.ONE, "abcde", {at: each for at, each in
                                 enumerate(self.FOUND)}, iter(self.FOUND), {each for each in self.FOUND}]:
            self.assertIs(False, is_closed(self.ONE, thing))
        self.assertIs(True, is_closed(table(("end",)), [()]))
        self.assertIs(True, is_closed(table(("end",)), ((),)))
        self.assertIs(False, is_closed(table(("end",)), ()))

    def test_drawn_ones(self):
        for seed in range(200):
            one = drawn(seed, 1 + seed % 9)
            found = alive(one)
            self.assertIs(True, is_closed(one, found))
            for at in range(len(found)):
                for box in ["a", "b", "m", "p01", "q"]:
                    more = tuple(each for each in found[at] if each != box)
                    more = more if box in found[at] else (box, *more)
                    thing = found[:at] + [more] + found[at + 1:]
                    right = all(
                        reads(row) <= set(thing[number]) and all(
                            set(thing[to]) - {setting} <= set(thing[number]) for to, setting in steps(one, number))
                        for number, row in enumerate(one.rows)
                    )
                    self.assertIs(right, is_closed(one, thing), seed)


if __name__ == "__main__":
    unittest.main()
