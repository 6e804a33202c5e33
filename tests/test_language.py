"""The rules of the language subset that a look at the files can judge; the numbers are those of the rules."""

import ast
import pathlib
import re
import unittest
import warnings

PACKAGE = pathlib.Path(__file__).resolve().parent.parent / "twocombs"
LIBRARY = {
    "heapq": "heappush heappop heapify heapreplace heappushpop",
    "math": "gcd lcm isqrt comb perm factorial",
    "itertools": "product combinations permutations chain accumulate pairwise islice zip_longest",
    "collections": "defaultdict deque",
    "__future__": "annotations",
}
# Builtins that may be called by their names (L8), print and the errors aside.
BUILTINS = set("""len range enumerate zip min max sum abs sorted reversed int str bool list tuple dict set isinstance
    ord repr any all divmod pow getattr hasattr setattr map iter next type super property staticmethod classmethod
    object ValueError Exception TypeError KeyError IndexError LookupError ZeroDivisionError ArithmeticError
    OverflowError RuntimeError NotImplementedError AttributeError StopIteration NotImplemented""".split())
DOUBLE = set("""__init__ __eq__ __repr__ __str__ __len__ __enter__ __exit__ __call__ __iter__ __slots__ __class__
    __name__""".split())
BARRED = """register mro elements open input law version_info with_traceback add_note breakpoint builtins compile
    copyright credits delattr dir eval exec exit gc globals help id importlib license locals os quit vars sys
    typing enum Enum Generic Protocol ABC namedtuple NamedTuple TypedDict dataclass""".split()
METHODS = """append clear copy count endswith extend find get index insert isalnum isalpha isdigit islower isspace
    isupper items join keys ljust lower lstrip partition pop remove replace reverse rfind rjust rpartition rsplit rstrip
    setdefault split splitlines startswith strip update upper values zfill bit_length""".split()
BARRED_NODES = (ast.AsyncFunctionDef, ast.AsyncFor, ast.AsyncWith, ast.Await, ast.Import, ast.Div, ast.MatMult)


def sources():
    """Return (path, text, tree) for each file of the package."""
    rows = []
    for path in sorted(PACKAGE.rglob("*.py")):
        text = path.read_text(encoding="utf-8")
        with warnings.catch_warnings():
            warnings.simplefilter("error")
            rows.append((path, text, ast.parse(text)))
    return rows


def definitions(tree):
    """Return all functions and classes of a file."""
    return [node for node in ast.walk(tree) if isinstance(node, (ast.FunctionDef, ast.ClassDef))]


def bound_names(tree):
    """Return all names that a file gives a meaning to, attributes left out."""
    names = [node.name for node in definitions(tree)]
    names += [node.arg for node in ast.walk(tree) if isinstance(node, ast.arg)]
    variables = [node for node in ast.walk(tree) if isinstance(node, ast.Name)]
    return names + [node.id for node in variables if isinstance(node.ctx, ast.Store)]


class LanguageTest(unittest.TestCase):
    def test_files(self):
        # L1, L14
        for path in PACKAGE.rglob("*"):
            if "__pycache__" not in path.parts and path.is_file():
                self.assertTrue(re.fullmatch(r"[a-z_][a-z0-9_]*\.py", path.name), path)

    def test_sizes_and_characters(self):
        # L10, L14
        for path, text, tree in sources():
            lines = text.split("\n")
            self.assertLessEqual(len(lines), 399, path)
            self.assertFalse([line for line in lines if len(line) > 120], path)
            self.assertFalse([sign for sign in text if sign != "\n" and not " " <= sign <= "~"], path)
            for node in definitions(tree):
                if isinstance(node, ast.FunctionDef):
                    self.assertLessEqual(node.end_lineno - node.lineno + 1, 40, (path, node.name))

    def test_imports(self):
        # L2, L16
        graph = {}
        for path, _, tree in sources():
            name = "twocombs." + path.stem
            graph[name] = []
            for node in ast.walk(tree):
                if isinstance(node, ast.ImportFrom):
                    self.assertIn(node, tree.body, path)
                    self.assertEqual(node.level, 0, path)
                    self.assert_import(node, path)
                    graph[name].append(node.module)
        for name in graph:
            self.assertFalse(self.leads_back(graph, name), name)

    def assert_import(self, node, path):
        for alias in node.names:
            self.assertIsNone(alias.asname, path)
            if node.module in LIBRARY:
                self.assertIn(alias.name, LIBRARY[node.module].split(), path)
            else:
                file = PACKAGE / (node.module.split(".", 1)[1] + ".py")
                tree = ast.parse(file.read_text(encoding="utf-8"))
                self.assertIn(alias.name, self.module_names(tree), (path, alias.name))

    def module_names(self, tree):
        names = [node.name for node in tree.body if isinstance(node, (ast.FunctionDef, ast.ClassDef))]
        return names + [node.targets[0].id for node in tree.body if isinstance(node, ast.Assign)]

    def leads_back(self, graph, name):
        seen = set()
        waiting = list(graph[name])
        while waiting:
            here = waiting.pop()
            if here not in seen:
                seen.add(here)
                waiting.extend(graph.get(here, []))
        return name in seen

    def test_statements(self):
        # L6, L7
        for path, _, tree in sources():
            for node in ast.walk(tree):
                self.assertNotIsInstance(node, BARRED_NODES, path)
                if isinstance(node, ast.Constant):
                    self.assertNotIsInstance(node.value, (float, complex), path)
                if isinstance(node, ast.Constant) and isinstance(node.value, str):
                    self.assertNotIn(chr(37), node.value, path)  # L27

    def test_module_level(self):
        # L3
        for path, _, tree in sources():
            for at, node in enumerate(tree.body):
                docstring = at == 0 and isinstance(node, ast.Expr) and isinstance(node.value, ast.Constant)
                kinds = (ast.ImportFrom, ast.FunctionDef, ast.ClassDef, ast.Assign)
                self.assertTrue(docstring or isinstance(node, kinds), (path, node.lineno))

    def test_names(self):
        # L8, L12, L15, L17
        builtins = dir(__import__("builtins"))
        for path, _, tree in sources():
            bound = bound_names(tree)
            imports = [node for node in ast.walk(tree) if isinstance(node, ast.ImportFrom)]
            imported = [alias.name for node in imports for alias in node.names]
            for name in bound:
                self.assertTrue(name in DOUBLE or not name.startswith("__"), (path, name))
                self.assertNotIn(name, BARRED, path)
                self.assertNotIn(name, imported, path)
                if name not in DOUBLE:
                    self.assertNotIn(name, builtins, path)
            known = set(bound) | set(imported) | BUILTINS
            for node in ast.walk(tree):
                if isinstance(node, ast.Name):
                    self.assertIn(node.id, known, path)

    def test_decorators(self):
        # L4, L5
        for path, _, tree in sources():
            methods = [node for owner in definitions(tree) if isinstance(owner, ast.ClassDef) for node in owner.body]
            for node in definitions(tree):
                told = [ast.unparse(decorator) for decorator in node.decorator_list]
                self.assertIn(told, [[], ["property"]] if node in methods else [[]], (path, node.name))

    def test_methods_that_are_called(self):
        # L25
        own = [node.name for _, _, tree in sources() for node in definitions(tree)]
        for path, _, tree in sources():
            for node in ast.walk(tree):
                if isinstance(node, ast.Call) and isinstance(node.func, ast.Attribute):
                    self.assertIn(node.func.attr, METHODS + own, (path, node.lineno))

    def test_identity(self):
        # L20
        for path, _, tree in sources():
            for node in ast.walk(tree):
                if isinstance(node, ast.Compare):
                    for sign, right in zip(node.ops, node.comparators):
                        if isinstance(sign, (ast.Is, ast.IsNot)):
                            self.assertIsInstance(right, ast.Constant, (path, node.lineno))

    def test_handlers(self):
        # L19
        own = [node.name for _, _, tree in sources() for node in definitions(tree)]
        for path, _, tree in sources():
            for node in ast.walk(tree):
                if isinstance(node, ast.ExceptHandler):
                    self.assertIn(ast.unparse(node.type), own, (path, node.lineno))


if __name__ == "__main__":
    unittest.main()
