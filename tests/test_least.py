"""[7.1]: rows that are alike, paths that part them, least tables."""

import unittest

from byrows import steps
from chance import chance_book
from drawn import drawn, itself, path_apart, rounds, words_from
from frozenmakers.errors import NoRow
from frozenmakers.least import alike, least, shows_apart
from frozenmakers.making import made
from frozenmakers.tables import Table, is_table
from samples import Same, Wild, book, refused, things
from test_rows import no_rows, table

A, B = ("box", "a"), ("box", "b")
ONE, TWO = ("number", 1), ("number", 2)
NONE = ("none",)
END = ("end",)

# Rows with one step or two, and for each others that are unlike it in themselves.
KINDS = [
    (("set", "a", A, 0), [("set", "b", A, 0), ("set", "a", B, 0), ("give", "a", A, 0), ("all", "a", A, 0)]),
    (("say", A, 0), [("say", B, 0), ("close", A, 0), ("say", ONE, 0), ("say", ("plus", A, A), 0)]),
    (("if", A, 0, 0), [("if", B, 0, 0), ("say", A, 0)]),
    (("make", "a", "g", (A,), 0), [("make", "b", "g", (A,), 0), ("make", "a", "h", (A,), 0), ("make", "a", "g", (B,), 0),
                                   ("make", "a", "g", (), 0), ("make", "a", "g", (A, A), 0)]),
    (("give", "a", A, 0), [("give", "b", A, 0), ("give", "a", ONE, 0), ("set", "a", A, 0), ("all", "a", A, 0)]),
    (("pull", "a", "ask", A, B, 0, 0), [("pull", "b", "ask", A, B, 0, 0), ("pull", "a", "toss", A, B, 0, 0),
                                        ("pull", "a", "ask", B, B, 0, 0), ("pull", "a", "ask", A, A, 0, 0)]),
    (("close", A, 0), [("close", B, 0), ("say", A, 0), ("throw", A)]),
    (("all", "a", A, 0), [("all", "b", A, 0), ("all", "a", ONE, 0), ("give", "a", A, 0)]),
    (("throw", A), [("throw", B), ("return", A), ("throw", NONE)]),
    (("return", A), [("return", B), ("throw", A), ("return", NONE), END]),
    (END, [("return", NONE), ("throw", NONE), ("throw", ONE)]),
]


class Alike(unittest.TestCase):
    def test_each_kind_of_row(self):
        for row, others in KINDS:
            self.assertIsNone(alike(table(row), 0, table(row), 0))
            for other in others:
                self.assertEqual([], alike(table(row), 0, table(other), 0), (row, other))
                self.assertEqual([], alike(table(other), 0, table(row), 0), (row, other))

    def test_numbers_of_rows_count_for_nothing(self):
        for row, _ in KINDS:
            # The same, one row further on, with a row to which nothing leads.
            moved = tuple(1 if type(part) is int else part for part in row)
            self.assertIsNone(alike(table(row), 0, table(("say", NONE, 0), moved), 1))
            self.assertIsNone(alike(table(("say", NONE, 0), moved), 1, table(row), 0))

    def test_lands_and_closes(self):
        row = ("give", "a", A, 0)
        for more in [{"lands": {0: (0, "a")}}, {"closes": {0: 0}}, {"lands": {0: (0, "a")}, "closes": {0: 0}}]:
            self.assertIsNone(alike(table(row, **more), 0, table(row, **more), 0))
            self.assertEqual([], alike(table(row, **more), 0, table(row), 0))
            self.assertEqual([], alike(table(row), 0, table(row, **more), 0))
        self.assertEqual([], alike(table(row, lands={0: (0, "a")}), 0, table(row, lands={0: (0, "b")}), 0))
        self.assertEqual([], alike(table(row, lands={0: (0, "a")}), 0, table(row, closes={0: 0}), 0))
        one, other = [table(row, lands={0: (0, box)}, closes={0: 0}) for box in "ab"]
        self.assertEqual([], alike(one, 0, other, 0))
        self.assertIsNone(alike(table(END, lands={0: (0, "a")}), 0, table(END, lands={0: (0, "a")}), 0))
        self.assertEqual([], alike(table(END, lands={0: (0, "a")}), 0, table(END), 0))

    def test_each_word_of_a_path(self):
        last = [("return", A), ("return", B)]
        for row, more, word in [
            (("say", A, 1), {}, "to"), (("set", "a", A, 1), {}, "to"), (("make", "a", "g", (), 1), {}, "to"),
            (("give", "a", A, 1), {}, "to"), (("close", A, 1), {}, "to"), (("all", "a", A, 1), {}, "to"),
            (("if", A, 1, 3), {}, "yes"), (("if", A, 3, 1), {}, "no"), (("pull", "a", "ask", A, A, 1, 3), {}, "to"),
            (("pull", "a", "ask", A, A, 3, 1), {}, "over"), (("say", A, 3), {"lands": {0: (1, "a")}}, "land"),
            (("give", "a", A, 3), {"closes": {0: 1}}, "close"), (("all", "a", A, 3), {"closes": {0: 1}}, "close"),
            (("end",), {"lands": {0: (1, "a")}}, "land"), (("throw", A), {"lands": {0: (1, "a")}}, "land"),
        ]:
            one = table(row, last[0], last[1], END, **more)
            other = table(row, last[1], last[0], END, **more)
            self.assertEqual([word], alike(one, 0, other, 0))
            self.assertIsNone(alike(one, 0, one, 0))
            self.assertIsNone(alike(one, 1, other, 2))
            self.assertIs(True, shows_apart(one, 0, other, 0, [word]))

    def test_the_shortest_path_then_the_least(self):
        # Rows of both lead apart by words of which these are the least in the order told.
        one = table(("pull", "a", "ask", A, A, 1, 2), END, END, lands={0: (2, "a")})
        other = table(("pull", "a", "ask", A, A, 1, 2), ("return", A), ("return", A), lands={0: (2, "a")})
        self.assertEqual(["to"], alike(one, 0, other, 0))
        one = table(("if", A, 1, 2), END, END, lands={0: (2, "a")})
        other = table(("if", A, 1, 2), ("return", A), ("return", A), lands={0: (2, "a")})
        self.assertEqual(["yes"], alike(one, 0, other, 0))
        one = table(("give", "a", A, 1), END, END, lands={0: (2, "a")}, closes={0: 2})
        other = table(("give", "a", A, 1), END, ("return", A), lands={0: (2, "a")}, closes={0: 2})
        self.assertEqual(["land"], alike(one, 0, other, 0))
        # A shorter one by a greater word goes ahead of a longer one by a less.
        rows = [("pull", "a", "ask", A, A, 1, 2), ("say", A, 3)]
        one = table(*rows, END, END)
        other = table(*rows, ("return", A), ("return", A))
        self.assertEqual(["over"], alike(one, 0, other, 0))
        self.assertEqual(["to", "to"], alike(table(*rows, END, END), 0, table(*rows, END, ("return", A)), 0))

    def test_longer_paths(self):
        many = 3000
        one = table(*[("say", ONE, number + 1) for number in range(many - 1)], END)
        other = table(*[("say", ONE, number + 1) for number in range(many - 1)], ("return", A))
        self.assertEqual(["to"] * (many - 1), alike(one, 0, other, 0))
        self.assertIs(True, shows_apart(one, 0, other, 0, ["to"] * (many - 1)))
        self.assertIsNone(alike(one, 0, one, 0))
        self.assertEqual(["to"] * (many - 2), alike(one, 0, one, 1))
        ring = table(*[("say", ONE, (number + 1) % many) for number in range(many)])
        self.assertIsNone(alike(ring, 0, ring, 1234))
        self.assertIsNone(alike(ring, 5, table(("say", ONE, 0)), 0))
        self.assertIsNone(alike(ring, 5, table(*[("say", ONE, (number + 1) % 2999) for number in range(2999)]), 0))

    def test_within_one_table_and_across_two(self):
        one = table(("say", A, 1), ("say", A, 0), ("say", A, 3), ("say", A, 4), END)
        self.assertIsNone(alike(one, 0, one, 1))
        self.assertEqual(["to", "to"], alike(one, 0, one, 2))
        self.assertEqual(["to"], alike(one, 3, one, 2))
        self.assertEqual([], alike(one, 4, one, 2))
        self.assertIsNone(alike(one, 2, one, 2))

    def test_name_and_params_count_for_nothing(self):
        self.assertIsNone(alike(Table("f", ("a",), [END]), 0, Table("g", (), [END]), 0))

    def test_drawn_ones(self):
        words = ["say", "if", "if", "give", "pull", "end"]
        for seed in range(150):
            tables = [drawn(seed + at, 1 + (seed + 3 * at) % 9, words=words, boxes=["a"], landing=0.1) for at in (0, 1)]
            found = rounds(tables)
            for i in range(len(tables[0].rows)):
                for j in range(len(tables[1].rows)):
                    path = path_apart(found, tables, i, j)
                    self.assertEqual(path, alike(tables[0], i, tables[1], j), seed)
                    if path is not None:
                        self.assertIs(True, shows_apart(tables[0], i, tables[1], j, path))
                        self.assertIs(True, shows_apart(tables[1], j, tables[0], i, path))

    def test_rows_that_are_nearly_alike(self):
        for seed in range(150):
            one = doubled(seed, drawn(seed, 2 + seed % 6, words=["say", "if", "if", "give", "pull"], boxes=["a"], landing=0.2))
            other = doubled(seed + 1, one)
            at = seed % len(other.rows)
            spoilt = Table("h", (), [*other.rows[:at], END, *other.rows[at + 1:]], lands=other.lands)
            for tables in ([one, other], [one, spoilt], [spoilt, other], [spoilt, spoilt]):
                found = rounds(tables)
                for i in range(len(tables[0].rows)):
                    for j in range(0, len(tables[1].rows), 3):
                        self.assertEqual(path_apart(found, tables, i, j), alike(tables[0], i, tables[1], j), seed)

    def test_no_row(self):
        one, other = table(END, ("say", A, 1)), table(END)
        for number in no_rows(2):
            for second in (0, 1, None, number):
                refused(self, NoRow, lambda: alike(one, number, other, second), number=number)
                refused(self, NoRow, lambda: shows_apart(one, number, other, second, []), number=number)
                refused(self, NoRow, lambda: shows_apart(one, number, other, second, Wild()), number=number)
        for number in no_rows(1):
            refused(self, NoRow, lambda: alike(one, 0, other, number), number=number)
            refused(self, NoRow, lambda: shows_apart(one, 1, other, number, None), number=number)
        self.assertIsNone(alike(j=0, other=other, i=0, one=one))
        self.assertIs(False, shows_apart(thing=[], j=0, other=other, i=0, one=one))


def doubled(seed, one):
    """A table that goes on alike, each row of it twice, and the steps by chance to the one or the other."""
    many = len(one.rows)

    def moved(number, count):
        return number + many * ((seed + count * 7 + number * 3) // 2 % 2)

    rows, lands, closes = [], {}, {}
    for number in range(2 * many):
        row = one.rows[number % many]
        width = 2 if row[0] in ("if", "pull") else 0 if row[0] in ("end", "return", "throw") else 1
        rows.append((*row[:len(row) - width], *[moved(to, number + at) for at, to in enumerate(row[len(row) - width:])]))
        if number % many in one.lands:
            to, box = one.lands[number % many]
            lands[number] = (moved(to, number), box)
        if number % many in one.closes:
            closes[number] = moved(one.closes[number % many], number)
    return Table(one.name, one.params, rows, lands=lands, closes=closes)


class ShowsApart(unittest.TestCase):
    ONE = table(("if", A, 1, 2), ("give", "a", A, 0), ("pull", "a", "ask", A, A, 0, 3), ("return", A),
                lands={1: (2, "a")}, closes={1: 3})
    OTHER = table(("if", A, 1, 2), ("give", "a", A, 0), ("pull", "a", "ask", A, A, 0, 3), ("return", B),
                  lands={1: (2, "a")}, closes={1: 3})

    def told(self, right, *paths):
        for path in paths:
            for thing in (path, tuple(path)):
                self.assertIs(right, shows_apart(self.ONE, 0, self.OTHER, 0, thing), path)

    def test_paths(self):
        self.told(True, ["no", "over"], ["yes", "close"], ["yes", "land", "over"], ["yes", "to", "no", "over"],
                  ["no", "to", "no", "to", "yes", "to", "yes", "close"])

    def test_no_paths(self):
        self.told(False, [], ["no"], ["over"], ["no", "to"], ["no", "over", "over"], ["no", "over", "to"], ["yes", "over"],
                  ["yes", "close", "land"], ["to"], ["land"], ["close"], ["yes", "land"], ["yes", "yes"], ["no", "over", ""])
        self.told(False, ["No", "over"], [0, 3], [2, 3], ["no", b"over"], ["no", None], [None], ["no", ["over"]], [["no", "over"]],
                  [("no", "over")], ["no over"], ["n", "o"], [Same(), Same()], ["no", Same()], ["no", Wild()], [Wild(), "over"])

    def test_of_anything(self):
        for thing in things() + ["no", "no over", b"no", {"no": 1, "over": 2}, {"no", "over"}, iter(["no", "over"]), 0, 1]:
            self.assertIs(False, shows_apart(self.ONE, 0, self.OTHER, 0, thing))
        self.assertIs(False, shows_apart(self.ONE, 0, self.OTHER, 3, None))

    def test_the_empty_path(self):
        for thing in ([], ()):
            self.assertIs(True, shows_apart(self.ONE, 3, self.OTHER, 3, thing))
            self.assertIs(True, shows_apart(self.ONE, 0, self.OTHER, 1, thing))
            self.assertIs(False, shows_apart(self.ONE, 0, self.ONE, 0, thing))
            self.assertIs(False, shows_apart(self.ONE, 3, self.ONE, 3, thing))

    def test_rows_that_are_alike(self):
        for path in ([], ["no"], ["no", "over"], ["yes", "close"]):
            self.assertIs(False, shows_apart(self.ONE, 0, self.ONE, 0, path))

    def test_through_rows_that_are_unlike(self):
        # Of rows that are unlike both may yet lead on by a word.
        one, other = table(("say", A, 1), END), table(("say", B, 1), ("return", A))
        self.assertEqual([True, True], [shows_apart(one, 0, other, 0, []), shows_apart(one, 0, other, 0, ["to"])])
        self.assertIs(False, shows_apart(one, 0, table(("say", B, 1), END), 0, ["to"]))
        # By a word that one of them has alone, they don't.
        one, other = table(("say", A, 0)), table(("if", A, 0, 0))
        for path in (["to"], ["yes"], ["no"]):
            self.assertIs(False, shows_apart(one, 0, other, 0, path))

    def test_spoilt_paths(self):
        words = ["to", "yes", "no", "over", "land", "close"]
        for seed in range(120):
            tables = [drawn(seed + at, 2 + seed % 5, words=["say", "if", "give", "pull"], boxes=["a"]) for at in (0, 1)]
            path = alike(tables[0], 0, tables[1], 0)
            if path is None:
                continue
            tries = [path[:at] + path[at + 1:] for at in range(len(path))]
            for word in words:
                tries += [path[:at] + [word] + path[at:] for at in range(len(path) + 1)]
                tries += [path[:at] + [word] + path[at + 1:] for at in range(len(path))]
            for each in tries:
                self.assertIs(leads_apart(tables, each), shows_apart(tables[0], 0, tables[1], 0, each))


def leads_apart(tables, path):
    at = [0, 0]
    for word in path:
        found = [words_from(each, number) for each, number in zip(tables, at)]
        if any(word not in each for each in found):
            return False
        at = [each[word][0] for each in found]
    return itself(tables[0], at[0]) != itself(tables[1], at[1])


class Least(unittest.TestCase):
    def told(self, one, *rows, **more):
        found = least(one)
        self.assertEqual(Table(one.name, one.params, rows, **more), found)
        self.assertIsNone(alike(one, 0, found, 0))

    def test_rows_that_are_alike_are_one(self):
        self.told(table(("say", A, 1), ("say", A, 2), ("say", A, 0)), ("say", A, 0))
        self.told(table(("if", A, 1, 2), END, END), ("if", A, 1, 1), END)
        self.told(table(("if", A, 1, 2), ("return", A), ("return", B)), ("if", A, 1, 2), ("return", A), ("return", B))
        self.told(table(("if", A, 2, 1), ("say", A, 3), ("say", A, 4), END, END), ("if", A, 1, 1), ("say", A, 2), END)

    def test_rows_are_numbered_as_they_are_met(self):
        self.told(table(("if", A, 3, 1), ("return", A), END, ("say", A, 2)), ("if", A, 1, 2), ("say", A, 3), ("return", A), END)
        self.told(table(("pull", "a", "ask", A, A, 2, 1), ("return", A), ("return", B)),
                  ("pull", "a", "ask", A, A, 1, 2), ("return", B), ("return", A))
        self.told(table(("give", "a", A, 3), ("return", A), ("return", B), ("throw", A), lands={0: (2, "b")}, closes={0: 1}),
                  ("give", "a", A, 1), ("throw", A), ("return", B), ("return", A), lands={0: (2, "b")}, closes={0: 3})
        # Row by row: what row 0 leads to stands ahead of what row 1 does.
        self.told(table(("if", A, 4, 3), END, ("return", A), ("say", B, 2), ("say", A, 1)),
                  ("if", A, 1, 2), ("say", A, 3), ("say", B, 4), END, ("return", A))

    def test_rows_behind_no_way_are_gone(self):
        self.told(table(END, ("say", A, 0), ("say", B, 1)), END)
        self.told(table(("say", A, 2), ("say", B, 0), END, lands={1: (0, "a"), 2: (0, "b")}), ("say", A, 1), END, lands={1: (0, "b")})
        self.told(table(("give", "a", A, 0), ("give", "a", A, 0), closes={1: 0}), ("give", "a", A, 0))

    def test_lands_and_closes_part_rows(self):
        self.told(table(("if", A, 1, 2), END, END, lands={1: (0, "a")}), ("if", A, 1, 2), END, END, lands={1: (0, "a")})
        self.told(table(("if", A, 1, 2), END, END, lands={1: (0, "a"), 2: (0, "b")}), ("if", A, 1, 2), END, END,
                  lands={1: (0, "a"), 2: (0, "b")})
        self.told(table(("if", A, 1, 2), END, END, lands={1: (0, "a"), 2: (0, "a")}), ("if", A, 1, 1), END, lands={1: (0, "a")})
        rows = [("if", A, 1, 2), ("give", "a", A, 0), ("give", "a", A, 0)]
        self.told(table(*rows, closes={1: 0}), *rows, closes={1: 0})
        self.told(table(*rows, closes={1: 0, 2: 0}), ("if", A, 1, 1), ("give", "a", A, 0), closes={1: 0})
        self.told(table(*rows, closes={1: 0, 2: 1}), *rows, closes={1: 0, 2: 1})

    def test_of_a_least_table_itself(self):
        for seed in range(100):
            found = least(drawn(seed, 1 + seed % 12))
            self.assertEqual(found, least(found))
            self.assertIsNot(found, least(found))

    def test_name_and_params_stay(self):
        for name, params in [("f", ()), ("g", ("a", "b"))]:
            found = least(Table(name, params, [("say", A, 1), ("say", A, 0)]))
            self.assertEqual(Table(name, params, [("say", A, 0)]), found)
        self.assertEqual(Table("f", (), [END]), least(table=Table("f", (), [END])))

    def test_the_same_for_all_that_go_on_alike(self):
        for seed in range(200):
            one = drawn(seed, 1 + seed % 10, words=["say", "if", "give", "pull", "end"], boxes=["a", "b"], landing=0.2)
            found = least(one)
            for other in (doubled(seed, one), doubled(seed + 1, doubled(seed, one))):
                self.assertEqual(found, least(other))
            self.assertEqual(is_table(one, book("maker f; end; maker g a; end; maker h m a; end")),
                             is_table(found, book("maker f; end; maker g a; end; maker h m a; end")))

    def test_as_few_rows_as_may_be(self):
        for seed in range(200):
            one = drawn(seed, 1 + seed % 14, words=["say", "say", "if", "if", "give", "pull", "end"], boxes=["a"], landing=0.1)
            found = least(one)
            classes = rounds([one])[-1]
            met, waiting = {0}, [0]
            while waiting:
                for to, _ in steps(one, waiting.pop()):
                    if to not in met:
                        met.add(to)
                        waiting.append(to)
            self.assertEqual(len({classes[0, number] for number in met}), len(found.rows))
            self.assertIsNone(alike(one, 0, found, 0))
            for i in range(len(found.rows)):
                for j in range(i):
                    self.assertIsNotNone(alike(found, i, found, j))

    def test_made_ones(self):
        for seed in range(60):
            whole = chance_book(seed)
            for function in whole.functions:
                one = made(function)
                found = least(one)
                self.assertIs(True, is_table(found, whole))
                self.assertIsNone(alike(one, 0, found, 0))
                self.assertEqual(len({rounds([one])[-1][0, number] for number in range(len(one.rows))}), len(found.rows))

    def test_of_some_thousand_rows(self):
        many = 3000
        ring = table(*[("say", ONE, (number + 1) % many) for number in range(many)])
        self.assertEqual(table(("say", ONE, 0)), least(ring))
        line = table(*[("say", ONE, number + 1) for number in range(many - 1)], END)
        self.assertEqual(line, least(line))
        ring = table(*[("say", TWO if number % 3 == 0 else ONE, (number + 1) % many) for number in range(many)])
        self.assertEqual(3, len(least(ring).rows))
        branches = [("if", A, 2 * number + 1, 2 * number + 2) for number in range(1499)] + [END] * 1500
        # A tree whose leaves are of two depths: of each depth all inner rows are alike but for those around the deepest leaves.
        found = least(table(*branches))
        classes = rounds([table(*branches)])[-1]
        self.assertEqual(len(set(classes.values())), len(found.rows))

    def test_it_changes_nothing(self):
        one = drawn(5, 9)
        rows, lands, closes = one.rows, dict(one.lands), dict(one.closes)
        least(one).lands.clear()
        least(one).closes.clear()
        alike(one, 0, one, 1)
        self.assertEqual((rows, lands, closes), (one.rows, one.lands, one.closes))


if __name__ == "__main__":
    unittest.main()
