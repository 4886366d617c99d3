"""Those of the language's rules that can be seen without reading every rule again."""

import ast
import builtins
import re
import unittest
from pathlib import Path

PACKAGE = Path(__file__).resolve().parent.parent / "choirtrue"
SOURCES = {path.name: path.read_text(encoding="utf-8") for path in sorted(PACKAGE.glob("*.py"))}
LIBRARY = {
    "heapq": {"heappush", "heappop", "heapify", "heapreplace", "heappushpop"},
    "math": {"gcd", "lcm", "isqrt", "comb", "perm", "factorial"},
    "itertools": {"product", "combinations", "permutations", "chain", "accumulate", "pairwise", "islice",
                  "zip_longest"},
    "collections": {"defaultdict"},
}
CALLED = set("""len range enumerate zip min max sum abs sorted reversed int str bool list tuple dict set
    isinstance ord repr any all divmod pow iter next map super""".split())
METHODS = set("""append clear copy count endswith extend find get index insert isalnum isalpha isdigit
    islower isspace isupper items join keys ljust lower lstrip partition pop remove replace reverse rfind
    rjust rpartition rsplit rstrip setdefault split splitlines startswith strip update upper values zfill
    bit_length sort add discard format""".split())
STATEMENTS = (ast.FunctionDef, ast.ClassDef, ast.Assign, ast.ImportFrom)
BARRED = (ast.AsyncFunctionDef, ast.Global, ast.Import, ast.Div, ast.Await)
BARRED_WORDS = re.compile(r"\b(type|typing|enum|Enum|namedtuple|Generic|Protocol|ABC)\b"
                          r"|dataclass|overload|contextmanager|_wall|_WallAttr")


def nodes(kinds):
    for name, text in SOURCES.items():
        for node in ast.walk(ast.parse(text)):
            if isinstance(node, kinds):
                yield f"{name}:{getattr(node, 'lineno', 0)}", node


def bound_names():
    for place, node in nodes((ast.FunctionDef, ast.ClassDef, ast.arg, ast.Name, ast.alias)):
        if isinstance(node, (ast.FunctionDef, ast.ClassDef, ast.alias)):
            yield place, node.name
        elif isinstance(node, ast.arg):
            yield place, node.arg
        elif isinstance(node.ctx, ast.Store):
            yield place, node.id


class Language(unittest.TestCase):
    def test_only_python_files(self):
        for path in PACKAGE.iterdir():
            if path.name != "__pycache__":
                self.assertRegex(path.name, r"^[a-z0-9_]+\.py$")
        self.assertIn("__init__.py", SOURCES)

    def test_signs_and_sizes(self):
        for name, text in SOURCES.items():
            self.assertRegex(text, r"\A[ -~\n]*\n\Z", name)
            lines = text.splitlines()
            self.assertLess(len(lines), 400, name)
            self.assertLessEqual(max(len(line) for line in lines), 120, name)
        for place, node in nodes(ast.FunctionDef):
            self.assertLessEqual(node.end_lineno - node.lineno + 1, 40, place)

    def test_module_level(self):
        for name, text in SOURCES.items():
            bound = []
            for node in ast.parse(text).body:
                doc = isinstance(node, ast.Expr) and isinstance(node.value, ast.Constant)
                self.assertTrue(doc or isinstance(node, STATEMENTS), f"{name}:{node.lineno}")
                if isinstance(node, ast.Assign):
                    bound += [target.id for target in node.targets]
                elif isinstance(node, ast.ImportFrom):
                    bound += [alias.name for alias in node.names]
                elif not doc:
                    bound.append(node.name)
            self.assertEqual(len(bound), len(set(bound)), name)

    def test_imports(self):
        for place, node in nodes(ast.ImportFrom):
            self.assertEqual(node.level, 0, place)
            names = {alias.name for alias in node.names}
            self.assertFalse([alias for alias in node.names if alias.asname], place)
            if node.module in LIBRARY:
                self.assertLessEqual(names, LIBRARY[node.module], place)
            else:
                package, file = node.module.split(".")
                self.assertEqual(package, "choirtrue", place)
                body = ast.parse(SOURCES[file + ".py"]).body
                for name in names:
                    self.assertTrue([part for part in body if getattr(part, "name", None) == name
                                     or isinstance(part, ast.Assign) and part.targets[0].id == name],
                                    f"{place} {name}")

    def test_names(self):
        for place, name in bound_names():
            self.assertRegex(name, r"\A(_?[A-Za-z][A-Za-z0-9_]*|_|__init__|__eq__|__len__|__str__|__repr__)\Z",
                             place)
            if not name.startswith("__"):
                self.assertFalse(hasattr(builtins, name), f"{place} {name}")

    def test_what_is_called(self):
        own = {name for _, name in bound_names()} | METHODS
        for names in LIBRARY.values():
            own |= names
        for place, node in nodes(ast.Call):
            if isinstance(node.func, ast.Name):
                self.assertIn(node.func.id, own | CALLED, place)
            elif isinstance(node.func, ast.Attribute):
                self.assertIn(node.func.attr, own | {"__init__"}, place)

    def test_values(self):
        for place, node in nodes(BARRED):
            self.fail(f"{place} {node.__class__.__name__}")
        for place, node in nodes(ast.Constant):
            self.assertNotIsInstance(node.value, (float, complex), place)
            if isinstance(node.value, str):
                self.assertNotIn("%", node.value, place)
        for place, node in nodes(ast.BinOp):
            if isinstance(node.op, ast.Pow):
                self.assertIsInstance(node.right, ast.Constant, place)

    def test_words(self):
        for name, text in SOURCES.items():
            self.assertIsNone(BARRED_WORDS.search(text), name)


if __name__ == "__main__":
    unittest.main()
