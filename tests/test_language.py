"""The package keeps to what can be counted of the rules for its code: sizes, signs, imports, kinds of statements."""

import ast
import builtins
import os
import unittest

HOME = os.path.join(os.path.dirname(os.path.dirname(os.path.abspath(__file__))), "frozenmakers")
LIBRARY = {
    "heapq": {"heappush", "heappop", "heapify", "heapreplace", "heappushpop"},
    "math": {"gcd", "lcm", "isqrt", "comb", "perm", "factorial"},
    "itertools": {
        "product", "combinations", "permutations", "chain", "accumulate", "pairwise", "islice", "zip_longest",
    },
    "collections": {"defaultdict", "deque"},
}
BARRED = {
    "open", "input", "eval", "exec", "compile", "globals", "locals", "vars", "dir", "hash", "id", "filter", "print", "float",
    "bytearray", "memoryview", "chr", "round", "slice", "callable", "delattr", "issubclass",
}
BARRED_WORDS = {
    "register", "mro", "elements", "law", "typing", "enum", "Enum", "Flag", "Generic", "Protocol", "ABC", "namedtuple", "dataclass", "overload",
    "contextmanager", "version_info", "with_traceback", "add_note", "_cold", "_outside", "_record", "_written_out", "_member_names",
}
BARRED_BEGINNINGS = ("_wall", "_pe_", "_dcw_", "_enum_", "_cm_", "_twin_re_", "_lay_", "_law_", "_stub_", "_sre", "_record", "_tuplegetter")
BARRED_NODES = (ast.AsyncFunctionDef, ast.Await, ast.AsyncFor, ast.AsyncWith, ast.Div)
# These take lists, for some classes of the package tell themselves what is equal to them.
LISTED = {"any", "all", "min", "max", "sum", "sorted"}


def sources():
    """The name and the text of each file of the package."""
    found = []
    for name in sorted(os.listdir(HOME)):
        if name != "__pycache__":
            with open(os.path.join(HOME, name), encoding="utf-8") as file:
                found.append((name, file.read()))
    return found


class Rules(unittest.TestCase):
    def test_files(self):
        self.assertIn("__init__.py", [name for name, _ in sources()])
        for name, text in sources():
            self.assertRegex(name, r"\A[a-z0-9_]+\.py\Z")
            rows = text.split("\n")
            self.assertLessEqual(len(rows), 399, name)
            self.assertLessEqual(max(len(row) for row in rows), 120, name)
            self.assertTrue(all(sign == "\n" or " " <= sign <= "~" for sign in text), name)

    def test_functions_are_short(self):
        for name, text in sources():
            for node in ast.walk(ast.parse(text)):
                if isinstance(node, ast.FunctionDef):
                    self.assertLessEqual(node.end_lineno - node.lineno + 1, 40, (name, node.name))
                    self.assertEqual([], [each for each in node.decorator_list if not isinstance(each, ast.Name)])

    def test_imports(self):
        for name, text in sources():
            for node in ast.walk(ast.parse(text)):
                self.assertNotIsInstance(node, ast.Import, name)
                if isinstance(node, ast.ImportFrom):
                    self.assertEqual(0, node.level, name)
                    told = {each.name for each in node.names}
                    if not node.module.startswith("frozenmakers."):
                        self.assertLessEqual(told, LIBRARY.get(node.module, set()), name)

    def test_statements_and_names(self):
        for name, text in sources():
            for node in ast.walk(ast.parse(text)):
                self.assertNotIsInstance(node, BARRED_NODES, (name, getattr(node, "lineno", 0)))
                if isinstance(node, ast.Name):
                    self.assertNotIn(node.id, BARRED, (name, node.lineno))
                if isinstance(node, ast.Call) and isinstance(node.func, ast.Name) and node.func.id in LISTED:
                    self.assertNotIsInstance(node.args[0], ast.GeneratorExp, (name, node.lineno))
                if isinstance(node, ast.Constant):
                    self.assertNotIsInstance(node.value, (float, complex, bytes), (name, node.lineno))

    def test_names_of_methods_and_attributes_are_unlike(self):
        methods, attributes = set(), set()
        for name, text in sources():
            for node in ast.walk(ast.parse(text)):
                if isinstance(node, ast.ClassDef):
                    methods |= {each.name for each in node.body if isinstance(each, ast.FunctionDef)}
                if isinstance(node, ast.Attribute) and isinstance(node.ctx, ast.Store):
                    attributes.add(node.attr)
        self.assertEqual(set(), methods & attributes)

    def test_no_name_of_an_import_or_a_builtin_means_anything_else(self):
        for name, text in sources():
            tree = ast.parse(text)
            taken = set(dir(builtins))
            for node in tree.body:
                if isinstance(node, ast.ImportFrom):
                    taken |= {each.name for each in node.names}
                if isinstance(node, ast.ClassDef):
                    taken.add(node.name)
            for node in ast.walk(tree):
                if isinstance(node, ast.Name) and isinstance(node.ctx, ast.Store):
                    self.assertNotIn(node.id, taken, (name, node.lineno))
                if isinstance(node, ast.arg):
                    self.assertNotIn(node.arg, taken, (name, node.lineno))

    def test_tables_at_module_level_are_only_read(self):
        for name, text in sources():
            tree = ast.parse(text)
            tables = {
                each.targets[0].id for each in tree.body if isinstance(each, ast.Assign) and isinstance(each.value, (ast.Dict, ast.List))
            }
            for node in ast.walk(tree):
                if isinstance(node, ast.Call):
                    passed = {each.id for each in node.args if isinstance(each, ast.Name)}
                    self.assertEqual(set(), passed & tables, (name, node.lineno))

    def test_imports_are_used_and_go_round_in_no_circle(self):
        leans = {}
        for name, text in sources():
            tree = ast.parse(text)
            used = {node.id for node in ast.walk(tree) if isinstance(node, ast.Name)}
            found = [node for node in tree.body if isinstance(node, ast.ImportFrom)]
            for node in found:
                self.assertEqual(set(), {each.name for each in node.names} - used, name)
            leans[name] = {node.module.split(".")[-1] + ".py" for node in found}
        left = dict(leans)
        while left:
            free = [name for name in left if not left[name] & set(left)]
            self.assertNotEqual([], free, left)
            left = {name: left[name] for name in left if name not in free}

    def test_words_that_occur_nowhere(self):
        for name, text in sources():
            for node in ast.walk(ast.parse(text)):
                if isinstance(node, ast.Constant) and type(node.value) is str:
                    self.assertNotIn("%", node.value, (name, node.lineno))
                    self.assertNotIn(node.value, BARRED_WORDS, (name, node.lineno))
                for word in (getattr(node, "id", ""), getattr(node, "attr", ""), getattr(node, "name", ""), getattr(node, "arg", "")):
                    self.assertNotIn(word, BARRED_WORDS, name)
                    self.assertFalse((word or "").startswith(BARRED_BEGINNINGS), (name, word))

    def test_module_level(self):
        allowed = (ast.ImportFrom, ast.FunctionDef, ast.ClassDef, ast.Assign)
        for name, text in sources():
            for at, node in enumerate(ast.parse(text).body):
                if at == 0:
                    self.assertIsInstance(node.value.value, str, name)
                else:
                    self.assertIsInstance(node, allowed, (name, node.lineno))


if __name__ == "__main__":
    unittest.main()
