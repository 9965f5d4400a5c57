"""[4.1]: tables, and what is one."""

import unittest

from frozenmakers.books import MODULUS, Book, Function
from frozenmakers.making import made
from frozenmakers.tables import Table, is_table
from samples import A, ONE, SUM, Same, Wild, book, expressions, things, wrong_expressions

BOOK = book("maker f a b; end; maker nought; end; maker one a; end")
# A row of each kind, each with all that it can have, all rows' numbers being there.
ROWS = [
    ("set", "a", SUM, 1), ("say", A, 0), ("if", ONE, 2, 3), ("make", "m", "f", (A, ONE), 4), ("give", "p01", ("none",), 5),
    ("pull", "b", "ask", A, ONE, 6, 0), ("pull", "9", "toss", A, ONE, 10, 11), ("close", A, 8), ("all", "b", A, 9),
    ("throw", ("box", "p01")), ("return", ("none",)), ("end",), ("make", "m", "nought", (), 0),
]
LANDS = {0: (3, "a"), 4: (4, "p01"), 8: (12, "zzzzzzz9"), 9: (0, "0"), 11: (0, "b")}
CLOSES = {4: 11, 8: 0}


def whole(**other):
    """A table of all kinds of rows, with some fields otherwise."""
    fields = {"name": "f", "params": ("a", "b"), "rows": ROWS, "lands": LANDS, "closes": CLOSES, **other}
    return Table(fields["name"], fields["params"], fields["rows"], lands=fields["lands"], closes=fields["closes"])


class Fields(unittest.TestCase):
    def test_as_handed_in(self):
        table = Table("f", ("a",), [("end",)])
        self.assertEqual(["f", ("a",), (("end",),), {}, {}], [
            table.name, table.params, table.rows, table.lands, table.closes,
        ])
        self.assertEqual({"name", "params", "rows", "lands", "closes"}, set(vars(table)))
        table = Table(closes={0: 1}, lands={1: (0, "b")}, rows=(("say", ONE, 1), ("end",)), params=(), name="g")
        self.assertEqual(["g", (), (("say", ONE, 1), ("end",)), {1: (0, "b")}, {0: 1}], [
            table.name, table.params, table.rows, table.lands, table.closes,
        ])
        self.assertEqual([tuple, tuple, dict, dict], [
            type(each) for each in (table.params, table.rows, table.lands, table.closes)
        ])

    def test_lands_and_closes_by_name_alone(self):
        with self.assertRaises(TypeError):
            Table("f", (), [("end",)], {})

    def test_dicts_rise_by_keys(self):
        table = Table("f", (), [], lands={10: (1, "a"), 2: (0, "b"), 0: (5, "c")}, closes={7: 1, 30: 2, 4: 9})
        self.assertEqual([(0, (5, "c")), (2, (0, "b")), (10, (1, "a"))], list(table.lands.items()))
        self.assertEqual([(4, 9), (7, 1), (30, 2)], list(table.closes.items()))

    def test_of_each_its_own(self):
        rows, lands, closes = list(ROWS), dict(LANDS), dict(CLOSES)
        one = Table("f", ("a", "b"), rows, lands=lands, closes=closes)
        other = Table("f", ("a", "b"), rows, lands=lands, closes=closes)
        bare, empty = Table("f", (), rows), Table("f", (), rows)
        rows.clear()
        lands[1] = (0, "a")
        closes.clear()
        self.assertEqual(whole(), one)
        one.lands[1] = (0, "b")
        one.closes[8] = 2
        bare.lands[0] = (0, "a")
        bare.closes[0] = 1
        self.assertEqual(whole(), other)
        self.assertEqual([{}, {}], [empty.lands, empty.closes])
        self.assertEqual([{}, {}], [Table("f", (), []).lands, Table("f", (), []).closes])
        self.assertEqual({1: (0, "a"), **LANDS}, lands)
        params = ["a"]
        table = Table("f", params, [("end",)])
        params.append("b")
        self.assertEqual(["a"], table.params)

    def test_what_stands_in_them_stays_as_it_is(self):
        row, pair, wild = ["say", ONE], [0, "a"], Wild()
        table = Table(wild, wild, [row, None, wild], lands={3: pair, 1: None}, closes={2: wild, 1: pair})
        self.assertIs(row, table.rows[0])
        self.assertIs(wild, table.rows[2])
        self.assertIs(pair, table.lands[3])
        self.assertIs(wild, table.closes[2])
        self.assertIs(wild, table.name)
        self.assertEqual([[1, 3], [1, 2]], [list(table.lands), list(table.closes)])

    def test_it_refuses_nothing(self):
        for thing in things():
            Table(thing, thing, [thing, thing], lands={1: thing, 0: thing}, closes={1: thing, 0: thing})
            for rows in (thing, [thing]):
                self.assertIs(False, is_table(Table("f", ("a", "b"), rows), BOOK))
        for lands in [{"b": 1, 1: 2, None: 3, (1, 2): 4, "a": 5, 0: 6}, {None: 1, True: 2, 1.5: 3, 2: 4}]:
            table = Table("f", (), [], lands=lands, closes=lands)
            self.assertEqual([lands, lands], [table.lands, table.closes])

    def test_equal_where_all_fields_are(self):
        self.assertEqual(whole(), whole(rows=tuple(ROWS), lands=dict(list(LANDS.items())[::-1])))
        self.assertFalse(whole() != whole())
        for other in [
            whole(name="g"), whole(params=("a",)), whole(params=("b", "a")), whole(rows=ROWS[:-1]), whole(rows=ROWS[::-1]),
            whole(rows=[*ROWS[:-1], ("end",)]), whole(lands=None), whole(lands={**LANDS, 0: (3, "b")}),
            whole(lands={**LANDS, 1: (3, "b")}), whole(closes=None), whole(closes={4: 11, 8: 1}), whole(closes={4: 11}),
        ]:
            self.assertNotEqual(whole(), other)
            self.assertNotEqual(other, whole())
            self.assertFalse(whole() == other)

    def test_equal_to_nothing_else(self):
        table = whole()
        for other in [None, "f", 0, ("f", ("a", "b"), tuple(ROWS)), tuple(ROWS), ROWS, vars(table), object(), Table,
                      Function("f", ("a", "b"), tuple(ROWS)), BOOK]:
            self.assertFalse(table == other)
            self.assertTrue(table != other)


class IsTable(unittest.TestCase):
    def right(self, table):
        self.assertIs(True, is_table(table, BOOK))

    def wrong(self, *tables):
        for table in tables:
            self.assertIs(False, is_table(table, BOOK), vars(table))

    def test_by_name(self):
        self.assertIs(True, is_table(book=BOOK, thing=whole()))

    def test_rows_of_all_kinds(self):
        self.right(whole())
        self.right(whole(rows=tuple(ROWS)))
        self.right(whole(lands=None, closes=None))
        self.right(Table("nought", (), [("end",)]))
        self.right(Table("one", ("a",), [("return", ONE)]))
        self.right(Table("f", ("a", "b"), [("say", A, 0)], lands={0: (0, "a")}))

    def test_of_other_things(self):
        for thing in things() + [ROWS, tuple(ROWS), vars(whole()), BOOK, BOOK.functions[0], Table, [whole()], (whole(),)]:
            self.assertIs(False, is_table(thing, BOOK))

    def test_of_a_function_of_the_book(self):
        for name in ["g", "one", "nought", "", "F", "f ", b"f", None, ("f",), ["f"]] + things():
            self.wrong(whole(name=name))
        for params in [(), ("a",), ("b", "a"), ("a", "b", "c"), ["a", "b"], "ab", ("a", None), ("a", Same()), (Wild(), "b")]:
            self.wrong(whole(params=params))
        for thing in things():
            self.wrong(whole(params=thing))
        self.assertIs(False, is_table(whole(), book("maker f a; end")))
        self.assertIs(False, is_table(whole(), book("maker g a b; end; maker nought; end")))
        self.assertIs(False, is_table(whole(), book("maker f a b; end")))
        self.assertIs(True, is_table(whole(), book("maker nought; end; maker x; end; maker f a b; end")))

    def test_one_row_at_least(self):
        self.wrong(Table("f", ("a", "b"), []), Table("f", ("a", "b"), ()))

    def other_rows(self, number, row):
        """The whole table, with that row in place of the one of that number."""
        return whole(rows=[*ROWS[:number], row, *ROWS[number + 1:]])

    def test_rows_that_are_none(self):
        for number, row in enumerate(ROWS):
            for other in [
                list(row), row[:-1], row + (ONE,), row + (0,), row[:1] + row, row[1:], (row,), [row], None, (), ("over", 1),
                ("while", A, 1, 2), ("try", 0), ("break",), ("again", 1), ("ask", "b", A, ONE, 1, 2), ("End",), (b"end",), "end",
                (Same(),), (Wild(),), (["end"],), ("end", None), (None,), (0,),
            ]:
                self.wrong(self.other_rows(number, other))
            for thing in things():
                self.wrong(self.other_rows(number, thing), self.other_rows(number, (thing, *row[1:])))

    def places(self, kinds):
        """The pairs of a row's number and the number in it of what is of one of these kinds."""
        found = {
            "box": [(0, 1), (3, 1), (4, 1), (5, 1), (6, 1), (8, 1), (12, 1)],
            "expression": [(0, 2), (1, 1), (2, 1), (4, 2), (5, 3), (5, 4), (6, 3), (6, 4), (7, 1), (8, 2), (9, 1), (10, 1)],
            "row": [(0, 3), (1, 2), (2, 2), (2, 3), (3, 4), (4, 3), (5, 5), (5, 6), (6, 5), (6, 6), (7, 2), (8, 3), (12, 4)],
            "way": [(5, 2), (6, 2)], "function": [(3, 2), (12, 2)], "things": [(3, 3), (12, 3)],
        }
        return found[kinds]

    def put(self, kind, part):
        """The whole table, the part in each place of its kind, one at a time."""
        return [
            self.other_rows(number, (*ROWS[number][:at], part, *ROWS[number][at + 1:])) for number, at in self.places(kind)
        ]

    def test_every_place_is_of_a_kind(self):
        found = [place for kind in ("box", "expression", "row", "way", "function", "things") for place in self.places(kind)]
        self.assertEqual(sorted(found), [(at, part) for at, row in enumerate(ROWS) for part in range(1, len(row))])

    def test_boxes(self):
        for box in ["a", "z", "0", "9", "a1", "p01", "12345678", "abcdefgh", "set", "none", "end"]:
            for table in self.put("box", box):
                self.right(table)
            for number in LANDS:
                self.right(whole(lands={**LANDS, number: (0, box)}))
            for table in self.put("expression", ("box", box)):
                self.right(table)
        for box in [
            "", "A", "aB", "abcdefghi", "123456789", "a_", "a b", " a", "a\n", "-1", "a-", "\u00e9", "\u0661", "\u00b2", "`", "{",
            "/", ":", ("box", "a"), ["a"], b"a",
        ] + things():
            self.wrong(*self.put("box", box), *self.put("expression", ("box", box)))
            self.wrong(*[whole(lands={**LANDS, number: (0, box)}) for number in LANDS])

    def test_expressions(self):
        for part in expressions():
            for table in self.put("expression", part):
                self.right(table)
            self.right(self.other_rows(3, ("make", "m", "f", (part, part), 4)))
        for part in wrong_expressions():
            # What a name can't be, a box of a table can, where it is of small letters and figures.
            if holds_box(part, ("none", "set", "end", "a1")):
                continue
            self.wrong(*self.put("expression", part))
            self.wrong(*self.put("expression", ("plus", ONE, ("same", part, A))))
            self.wrong(self.other_rows(3, ("make", "m", "f", (A, part), 4)))
            self.wrong(self.other_rows(3, ("make", "m", "f", (part, A), 4)))
        for number in (-1, MODULUS, True, 1.0, None):
            self.wrong(*self.put("expression", ("number", number)))

    def test_numbers_of_rows(self):
        many = len(ROWS)
        for number in (0, 1, many - 1):
            for table in self.put("row", number):
                self.right(table)
        for number in [-1, many, many + 1, True, False, 1.0, "1", None, (1,), [1]] + things():
            if type(number) is not int or not 0 <= number < many:
                self.wrong(*self.put("row", number))

    def test_ways(self):
        for table in self.put("way", "ask") + self.put("way", "toss"):
            self.right(table)
        for way in ["close", "all", "Ask", "", "as", b"ask", ("ask",), ["ask"]] + things():
            self.wrong(*self.put("way", way))

    def test_makes(self):
        for name, many in [("f", 2), ("nought", 0), ("one", 1)]:
            for count in range(4):
                table = self.other_rows(3, ("make", "m", name, (A,) * count, 4))
                self.assertIs(count == many, is_table(table, BOOK))
        for name in ["g", "", "F", b"f", ("f",), ["f"]] + things():
            self.wrong(*self.put("function", name))
        for part in [[A, ONE], (A,), (A, ONE, A), A, ((A, ONE),), "ab", {0: A, 1: A}, {"a": A}] + things():
            self.wrong(self.other_rows(3, ("make", "m", "f", part, 4)))
            self.wrong(self.other_rows(12, ("make", "m", "nought", part, 4)))

    def test_lands(self):
        for number in range(len(ROWS)):
            self.right(whole(lands={number: (0, "a")}))
            self.right(whole(lands={0: (number, "a")}))
        for number in [-1, len(ROWS), True, 1.0, "0", None, (0,), Ellipsis, Same]:
            self.wrong(whole(lands={number: (0, "a")}), whole(lands={**LANDS, number: (0, "a")}))
            self.wrong(whole(lands={0: (number, "a")}), whole(lands={**LANDS, 11: (number, "a")}))
        for pair in [[0, "a"], (0,), (0, "a", "a"), ("a", 0), 0, "a", (), (0, None), (None, "a")] + things():
            self.wrong(whole(lands={0: pair}), whole(lands={**LANDS, 8: pair}))
        for lands in [[], (), [(0, (0, "a"))], "", 0, False, {0}] + things():
            if lands is not None and type(lands) is not dict:
                self.wrong(whole(lands=lands))

    def test_closes(self):
        for number in range(len(ROWS)):
            self.assertIs(number in (4, 8), is_table(whole(closes={number: 0}), BOOK))
            self.right(whole(closes={4: number}))
        for number in [-1, len(ROWS), True, 1.0, "0", None, (0,), (0, "a"), [0]] + things():
            if type(number) is not int or not 0 <= number < len(ROWS):
                self.wrong(whole(closes={4: number}), whole(closes={**CLOSES, 8: number}))
        for number in [-9, -5, len(ROWS), True, 4.5, "4", None, (4,)]:
            self.wrong(whole(closes={number: 0}), whole(closes={**CLOSES, number: 0}))
        self.wrong(whole(closes={4.0: 0}), whole(closes={8: 0, 4.0: 0}))
        for closes in [[], (), [(4, 0)], "", 0, False, {4}] + things():
            if closes is not None and type(closes) is not dict:
                self.wrong(whole(closes=closes))

    def test_fields_that_are_changed_later(self):
        for field, worths in [
            ("rows", [list(ROWS), ROWS[0], None, 0]), ("lands", [None, [], {99: (0, "a")}]), ("closes", [None, [], {0: 0}]),
            ("name", [None, "g"]), ("params", [None, ["a", "b"]]),
        ]:
            for worth in worths:
                table = whole()
                setattr(table, field, worth)
                self.assertIs(False, is_table(table, BOOK))

    def test_it_changes_nothing(self):
        table = whole()
        is_table(table, BOOK)
        self.assertEqual(whole(), table)


def holds_box(part, names):
    """Whether a box of one of these names stands in what may be an expression, however deep."""
    if type(part) is not tuple:
        return False
    if len(part) == 2 and type(part[0]) is str and part[0] == "box":
        return type(part[1]) is str and part[1] in names
    return any(holds_box(each, names) for each in part)


def spoilt_parts(part):
    """What is put in place of a part of a table, so that it is none."""
    if type(part) is int:
        return [-1, 10 ** 7, True, None, str(part), float(part)]
    if type(part) is str:
        return ["", part.upper(), part + " ", None, 3, b"a", (part,)]
    return [list(part), part + (None,), part[:-1], None, 0] if part else [None, [], 0, (None,)]


def spoilt(thing):
    """A tuple with one thing spoilt, at each place however deep."""
    found = []
    for at, part in enumerate(thing):
        inner = spoilt_parts(part) + (spoilt(part) if type(part) is tuple else [])
        found.extend([(*thing[:at], each, *thing[at + 1:]) for each in inner])
    return found


class Spoilt(unittest.TestCase):
    def check(self, whole_book, function):
        table = made(function)
        self.assertIs(True, is_table(table, whole_book))
        fields = {"lands": table.lands, "closes": table.closes}
        for number, row in enumerate(table.rows):
            for other in spoilt(row) + spoilt_parts(row):
                rows = [*table.rows[:number], other, *table.rows[number + 1:]]
                self.assertIs(False, is_table(Table(table.name, table.params, rows, **fields), whole_book), other)
        for field in ("lands", "closes"):
            for key, worth in fields[field].items():
                wrong = [{**fields[field], key: each} for each in spoilt_parts(worth)]
                if type(worth) is tuple:
                    wrong += [{**fields[field], key: each} for each in spoilt(worth)]
                rest = {each: fields[field][each] for each in fields[field] if each != key}
                wrong += [{**rest, each: worth} for each in (-1, len(table.rows), str(key), None, (key,), key + 0.5)]
                for each in wrong:
                    other = Table(table.name, table.params, table.rows, **{**fields, field: each})
                    self.assertIs(False, is_table(other, whole_book), each)

    def test_made_tables_with_one_thing_spoilt(self):
        whole_book = book("""
            maker f a b; set a (a + 1); try; give x a; make m g; make n f m , (x = none); ask y m , 0; say y; end
            toss y n , 5; end; close m; all y n; return a; throw b; catch e; while e; set e (e - 1); if e; break; end; end
            finally; give x 9; end; say b; if a; say 1; else; throw 3; end; end
            maker g; end
        """)
        for function in whole_book.functions:
            self.check(whole_book, function)
        self.assertIs(False, is_table(made(whole_book.functions[0]), Book(whole_book.functions[1:])))


if __name__ == "__main__":
    unittest.main()
