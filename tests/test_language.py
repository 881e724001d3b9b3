"""The form of the package: the interface, file by file, and the rules of LANGUAGE.md that a program can see."""

import ast
import os
import unittest

FOLDER = os.path.join(os.path.dirname(os.path.dirname(os.path.abspath(__file__))), "scopebind")

# What DOC.md lists for each file; for a class, the methods that it has to define itself.
INTERFACE = {
    "errors.py": {
        "LoadError": [], "NoLibrary": [], "NoStore": [], "NoName": [], "Missing": [], "NoSymbol": [],
        "NoPreloads": [], "NotLoaded": [], "NotUsed": [], "Unresolved": [], "NoHandle": [], "NoWishes": [],
    },
    "libraries.py": {
        "Library": ["__init__", "__eq__"],
        "Store": ["__init__", "__getitem__", "__contains__", "__len__"],
        "names": None,
    },
    "closures.py": {"closure": None, "definers": None},
    "process.py": {
        "Process": [
            "__init__", "__contains__", "__len__", "scope", "local", "order", "loaded", "copy", "attach", "call",
            "target", "bindings", "handles", "find", "after", "detach", "why", "holders", "goes", "pins",
        ],
    },
    "targets.py": {"changers": None, "run": None, "upset": None},
    "preloads.py": {"meets": None, "least_preloads": None},
}

OUTSIDE = {
    "__future__": ["annotations"],
    "heapq": ["heappush", "heappop", "heapify", "heapreplace", "heappushpop"],
    "math": ["gcd", "lcm", "isqrt", "comb", "perm", "factorial"],
    "itertools": [
        "product", "combinations", "permutations", "chain", "accumulate", "pairwise", "islice", "zip_longest",
    ],
    "collections": ["defaultdict"],
}

BUILTINS = """len range enumerate zip min max sum abs sorted reversed int str bool list tuple dict set isinstance ord
repr any all divmod pow getattr hasattr setattr iter next map super property staticmethod classmethod Exception
ValueError TypeError KeyError IndexError LookupError ZeroDivisionError ArithmeticError OverflowError RuntimeError
NotImplementedError AttributeError StopIteration NotImplemented""".split()

METHODS = """append clear copy count endswith extend find get index insert isalnum isalpha isdigit islower isspace
isupper items join keys ljust lower lstrip partition pop remove replace reverse rfind rjust rpartition rsplit rstrip
setdefault split splitlines startswith strip update upper values zfill bit_length title capitalize swapcase casefold
center expandtabs removeprefix removesuffix rindex isascii isdecimal isnumeric istitle isidentifier isprintable add
discard""".split()

# Python's own names may be asked for without an import.
PYTHON = dir(__import__("builtins"))

NEVER = "register mro elements open input law version_info with_traceback add_note".split()

NODES = (
    ast.Global, ast.AsyncFunctionDef, ast.AsyncFor, ast.AsyncWith, ast.Await, ast.Import, ast.TryStar, ast.Div,
)


def sources():
    """Return the text of each file of the package, by its name."""
    found = {}
    for name in sorted(os.listdir(FOLDER)):
        if name != "__pycache__":
            with open(os.path.join(FOLDER, name), encoding="utf-8", newline="") as file:
                found[name] = file.read()
    return found


def trees():
    return {name: ast.parse(text) for name, text in sources().items()}


def own_names(tree):
    return [node.name for node in tree.body if isinstance(node, (ast.FunctionDef, ast.ClassDef))]


class LanguageTest(unittest.TestCase):
    def test_interface(self):
        for name, listed in INTERFACE.items():
            here = {node.name: node for node in trees()[name].body if isinstance(node, (ast.FunctionDef, ast.ClassDef))}
            for word, methods in listed.items():
                with self.subTest(f"{name} {word}"):
                    self.assertIn(word, here)
                    self.assertEqual(isinstance(here[word], ast.ClassDef), methods is not None)
                    for method in methods or []:
                        self.assertIn(method, [part.name for part in here[word].body if hasattr(part, "name")])

    def test_files(self):
        self.assertIn("__init__.py", sources())
        for name in sources():
            self.assertTrue(name.endswith(".py") and name == name.lower(), name)

    def test_sizes_and_characters(self):
        for name, text in sources().items():
            with self.subTest(name):
                rows = text.split("\n")
                self.assertLessEqual(len(rows), 399)
                self.assertLessEqual(max(len(row) for row in rows), 120)
                self.assertEqual([c for c in text if c != "\n" and not " " <= c <= "~"], [])

    def test_functions_are_small(self):
        for name, tree in trees().items():
            for node in ast.walk(tree):
                if isinstance(node, ast.FunctionDef):
                    self.assertLessEqual(node.end_lineno - node.lineno + 1, 40, f"{name} {node.name}")

    def test_imports(self):
        whole = trees()
        for name, tree in whole.items():
            for node in ast.walk(tree):
                if isinstance(node, ast.ImportFrom):
                    with self.subTest(f"{name} {node.lineno}"):
                        self.assertEqual(node.level, 0)
                        words = [alias.name for alias in node.names]
                        if node.module in OUTSIDE:
                            self.assertLessEqual(set(words), set(OUTSIDE[node.module]))
                        else:
                            folder, file = node.module.split(".")
                            self.assertEqual(folder, "scopebind")
                            told = [target.id for part in whole[file + ".py"].body if isinstance(part, ast.Assign)
                                    for target in part.targets]
                            self.assertLessEqual(set(words), set(own_names(whole[file + ".py"]) + told))

    def test_no_two_files_import_from_each_other(self):
        leads = {}
        for name, tree in trees().items():
            modules = [node.module for node in ast.walk(tree) if isinstance(node, ast.ImportFrom)]
            leads[name] = [module.split(".")[1] + ".py" for module in modules if module.startswith("scopebind.")]
        while leads:
            ends = [name for name in leads if not [other for other in leads[name] if other in leads]]
            self.assertNotEqual(ends, [], f"a ring of imports in {sorted(leads)}")
            for name in ends:
                del leads[name]

    def test_only_allowed_statements_and_builtins(self):
        for name, tree in trees().items():
            for node in ast.walk(tree):
                where = f"{name} {getattr(node, 'lineno', 0)}"
                self.assertNotIsInstance(node, NODES, where)
                if isinstance(node, ast.Name) and node.id in PYTHON:
                    self.assertIn(node.id, BUILTINS, where)
                    self.assertIsInstance(node.ctx, ast.Load, where)
                if isinstance(node, ast.Constant):
                    self.assertNotIsInstance(node.value, (float, complex), where)

    def test_only_allowed_methods_and_names(self):
        whole = trees()
        nodes = [node for tree in whole.values() for node in ast.walk(tree)]
        own = {node.name for node in nodes if isinstance(node, ast.FunctionDef)}
        for name, tree in whole.items():
            for node in ast.walk(tree):
                where = f"{name} {getattr(node, 'lineno', 0)}"
                if isinstance(node, ast.Call) and isinstance(node.func, ast.Attribute):
                    self.assertIn(node.func.attr, own | set(METHODS) | {"__init__"}, where)
                for part in ["id", "attr", "arg", "name"]:
                    self.assertNotIn(getattr(node, part, None), NEVER, where)

    def test_module_level_is_plain(self):
        plain = (ast.FunctionDef, ast.ClassDef, ast.ImportFrom, ast.Assign, ast.Expr)
        for name, tree in trees().items():
            for node in tree.body:
                self.assertIsInstance(node, plain, f"{name} {node.lineno}")
                if isinstance(node, ast.Expr):
                    self.assertIsInstance(node.value, ast.Constant, f"{name} {node.lineno}")

    def test_lists_instead_of_generators(self):
        # The package has an __eq__, so any, all and the like take lists (L7).
        for name, tree in trees().items():
            for node in ast.walk(tree):
                self.assertNotIsInstance(node, ast.GeneratorExp, f"{name} {getattr(node, 'lineno', 0)}")


if __name__ == "__main__":
    unittest.main()
