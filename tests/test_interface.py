"""The names, arguments and places of all that the document's interface lists."""

import importlib
import inspect
import unittest

INTERFACE = {
    "books": {
        "is_name": "text", "Function": "name params body", "Book": "functions", "boxes_of": "function",
    },
    "texts": {"written": "book", "book_of": "text"},
    "plain": {"Plain": "book * most=2000"},
    "tables": {"Table": "name params rows * lands=None closes=None", "is_table": "thing book"},
    "making": {"made": "function"},
    "alive": {
        "alive": "table", "kept": "table number", "read_way": "table number box", "shows_alive": "table number box thing",
        "is_closed": "table thing",
    },
    "machine": {"House": "book * tables=None"},
    "least": {"alike": "one i other j", "shows_apart": "one i other j thing", "least": "table"},
    "frozen": {"freeze": "house k", "thaw": "house text", "pin": "house k", "unpin": "house k"},
    "logs": {"again": "log book * tables=None", "judged": "log book"},
    "halls": {"Hall": "book many=2"},
    "desk": {"Desk": ""},
    "errors": {
        "StillError": None, "NoBook": "at", "NoText": "row", "NoName": "name", "NoThings": None, "NoWorth": None, "NoMaker": "number",
        "TooLong": "most", "NoTable": "name", "NoRow": "number", "NoWay": None, "Pinned": "number", "Shared": "number", "NoThaw": "at",
        "NoLog": "at", "NoHouse": "number", "NoPost": "house", "NoFall": None,
    },
}
ASKINGS = {"begin": "name things=()", "ask": "k worth=None", "toss": "k number", "close": "k", "said": "", "state": "k", "__len__": ""}
METHODS = {
    "plain.Plain": {**ASKINGS, "alive": "k", "held": "k"},
    "machine.House": {**ASKINGS, "place": "k", "boxes": "k", "held": "k", "log": ""},
    "halls.Hall": {
        "begin": "house name things=()", "ask": "house k worth=None", "toss": "house k number", "close": "house k", "said": "house",
        "state": "house k", "send": "house k to", "take": "house", "fall": "house * undone=0", "rise": "house", "post": "", "where": "",
        "log": "house",
    },
    "desk.Desk": {"answer": "row"},
    "books.Function": {"__eq__": "other"}, "books.Book": {"__eq__": "other"}, "tables.Table": {"__eq__": "other"},
}
NUMBERS = {"books": {"MODULUS": 1000003, "KIND": 1000003, "BUSY": 1000004, "STUBBORN": 1000005, "DEEP": 1000006}, "plain": {"MOST": 2000}}


def shown(thing, skipped=0):
    """The arguments of a function as they are told above."""
    found = []
    for parameter in list(inspect.signature(thing).parameters.values())[skipped:]:
        if parameter.kind is parameter.KEYWORD_ONLY and "*" not in found:
            found.append("*")
        default = "" if parameter.default is parameter.empty else f"={parameter.default!r}"
        found.append(parameter.name + default)
    return " ".join(found)


class Interface(unittest.TestCase):
    def test_functions_and_classes(self):
        for name, parts in INTERFACE.items():
            module = importlib.import_module("frozenmakers." + name)
            for part, arguments in parts.items():
                thing = getattr(module, part)
                self.assertEqual("frozenmakers." + name, thing.__module__)
                if arguments is not None:
                    self.assertEqual(arguments, shown(thing), part)

    def test_methods_stand_in_the_class_itself(self):
        for name, methods in METHODS.items():
            module, part = name.split(".")
            thing = getattr(importlib.import_module("frozenmakers." + module), part)
            for method, arguments in methods.items():
                self.assertIn(method, vars(thing), name)
                self.assertEqual(arguments, shown(vars(thing)[method], 1), (name, method))

    def test_numbers(self):
        for name, numbers in NUMBERS.items():
            module = importlib.import_module("frozenmakers." + name)
            for part, number in numbers.items():
                self.assertEqual((int, number), (type(getattr(module, part)), getattr(module, part)))


if __name__ == "__main__":
    unittest.main()
