"""The form of the files of the package, as far as it is easy to see by a program."""

import ast
import builtins
import pathlib
import unittest

PACKAGE = pathlib.Path(__file__).resolve().parent.parent / "fliponce"
# Python's own shell, and doctest with it, may put one more name there.
BUILTINS = set(dir(builtins)) - {"_"}
LET = set("""
    len range enumerate zip min max sum abs sorted reversed int str bool bytes list tuple dict set frozenset isinstance
    ord repr any all divmod iter next map Exception ValueError TypeError KeyError IndexError LookupError
    ZeroDivisionError ArithmeticError OverflowError RuntimeError NotImplementedError AttributeError StopIteration
    NotImplemented super property staticmethod classmethod
""".split())
LIBRARY = {
    "heapq": {"heappush", "heappop", "heapify", "heapreplace", "heappushpop"},
    "math": {"gcd", "lcm", "isqrt", "comb", "perm", "factorial"},
    "itertools": {"product", "combinations", "permutations"},
}
INTERFACE = {
    "limits.py": [],
    "errors.py": [
        "ShapeError", "QuestionError", "SizeError", "InvalidSwitches", "InvalidRules", "InvalidText", "InvalidSetting",
        "InvalidRule", "InvalidLiteral", "InvalidLiterals", "InvalidSeen", "InvalidDeeds", "InvalidPromise",
        "InvalidIndex", "InvalidLine", "NotAPanel", "UnknownSwitch", "NoSetting", "NotAkin", "Refused", "Busy",
        "NothingToUndo", "Broken", "TooMany",
    ],
    "panels.py": ["Panel"],
    "settings.py": ["has_setting", "is_good", "broken", "settings", "how_many", "holds"],
    "needs.py": ["needs", "way", "needed", "fixed", "ties"],
    "moving.py": ["locked", "lets", "comes", "distance", "ahead", "order_of", "many_orders"],
    "nearest.py": ["nearest", "price", "dearest"],
    "pieces.py": ["pieces", "piece", "widest", "middle"],
    "comparing.py": ["implies", "needless", "alike", "parting", "give_up"],
    "learned.py": ["tightest", "fits", "surely", "closure"],
    "led.py": ["Board", "attempt"],
    "desks.py": ["Desk", "tried"],
    "checker.py": ["holds_claim"],
    "certificates.py": [
        "certify_empty", "certify_fixed", "certify_locked", "certify_implied", "certify_coming", "certify_nearest",
    ],
    "consoles.py": ["Console"],
    "samples.py": ["chain", "shed"],
}
METHODS = {
    "Panel": ["__init__", "read", "text", "__str__", "__len__", "__eq__"],
    "Board": ["__init__", "__len__", "do", "do_all", "undo", "trial"],
    "Desk": ["__init__", "__len__", "as_panel", "put", "take", "promise", "lift", "undo", "trial"],
    "Console": ["__init__", "say"],
}


def files():
    return sorted(path for path in PACKAGE.rglob("*") if "__pycache__" not in path.parts)


def trees():
    return [(path, ast.parse(path.read_text(encoding="utf-8"))) for path in files()]


class FormTest(unittest.TestCase):
    def test_files(self):
        for path in files():
            text = path.read_bytes().decode("utf-8")
            with self.subTest(path=path.name):
                self.assertEqual(path.suffix, ".py")
                self.assertEqual(path.name, path.name.lower())
                self.assertTrue(all(" " <= sign <= "~" or sign == "\n" for sign in text))
                self.assertLessEqual(len(text.splitlines()), 399)
                self.assertLessEqual(max([len(line) for line in text.splitlines()]), 120)
                self.assertFalse("_wall" in text)

    def test_size_of_functions(self):
        for path, tree in trees():
            for node in ast.walk(tree):
                if isinstance(node, ast.FunctionDef):
                    self.assertLessEqual(node.end_lineno - node.lineno + 1, 40, (path.name, node.name))

    def test_imports(self):
        for path, tree in trees():
            for node in ast.walk(tree):
                self.assertNotIsInstance(node, ast.Import, path.name)
                if isinstance(node, ast.ImportFrom):
                    self.assertEqual(node.level, 0)
                    self.assertTrue(all(alias.name != "*" for alias in node.names))
                    if node.module in LIBRARY:
                        self.assertLessEqual({alias.name for alias in node.names}, LIBRARY[node.module])
                    else:
                        self.assertTrue(node.module.startswith("fliponce."), (path.name, node.module))

    def test_builtins(self):
        for path, tree in trees():
            for node in ast.walk(tree):
                if isinstance(node, ast.Name) and node.id in BUILTINS:
                    self.assertIsInstance(node.ctx, ast.Load, (path.name, node.id))
                    self.assertIn(node.id, LET, (path.name, node.lineno))
                if isinstance(node, ast.arg):
                    self.assertNotIn(node.arg, BUILTINS, (path.name, node.arg))

    def test_no_name_means_two_things(self):
        for path, tree in trees():
            taken = {alias.name for node in tree.body if isinstance(node, ast.ImportFrom) for alias in node.names}
            taken |= {node.name for node in tree.body if isinstance(node, (ast.ClassDef, ast.FunctionDef))}
            for node in ast.walk(tree):
                if isinstance(node, ast.arg):
                    self.assertNotIn(node.arg, taken, (path.name, node.lineno))
                if isinstance(node, ast.Name) and isinstance(node.ctx, ast.Store):
                    self.assertNotIn(node.id, taken, (path.name, node.lineno))

    def test_no_generator_expressions(self):
        for path, tree in trees():
            for node in ast.walk(tree):
                self.assertNotIsInstance(node, ast.GeneratorExp, path.name)

    def test_every_import_is_used(self):
        for path, tree in trees():
            used = {node.id for node in ast.walk(tree) if isinstance(node, ast.Name)}
            for node in tree.body:
                if isinstance(node, ast.ImportFrom):
                    for alias in node.names:
                        self.assertIn(alias.name, used, path.name)

    def test_constants(self):
        for path, tree in trees():
            for node in ast.walk(tree):
                self.assertNotIsInstance(node, (ast.Global, ast.AsyncFunctionDef, ast.Div), path.name)
                if isinstance(node, ast.Constant):
                    self.assertNotIsInstance(node.value, (float, complex), (path.name, node.lineno))
                    self.assertFalse(isinstance(node.value, str) and "%" in node.value, (path.name, node.lineno))

    def test_interface_stands_in_its_files(self):
        found = {
            path.name: {node.name for node in tree.body if isinstance(node, (ast.FunctionDef, ast.ClassDef))}
            for path, tree in trees()
        }
        for name, wanted in INTERFACE.items():
            self.assertIn(name, found)
            self.assertLessEqual(set(wanted), found[name])

    def test_methods_stand_in_their_classes(self):
        found = {
            node.name: {row.name for row in node.body if isinstance(row, ast.FunctionDef)}
            for _, tree in trees() for node in tree.body if isinstance(node, ast.ClassDef)
        }
        for name, wanted in METHODS.items():
            self.assertLessEqual(set(wanted), found[name])


if __name__ == "__main__":
    unittest.main()
