"""The rules of the language that the package is written in, as far as a plain look at its files tells them.

Where a rule allows a thing only here and there (sets, lambdas, try), this bars it wholly, as long as nothing needs it.
"""

import ast
import builtins
import unittest
from pathlib import Path

PACKAGE = Path(__file__).resolve().parent.parent / "gapswaps"
BUILTINS = (
    "len range enumerate zip min max sum abs sorted reversed int str bool bytes list tuple dict set isinstance ord repr "
    "any all divmod pow map next iter ValueError TypeError KeyError IndexError property"
).split()
METHODS = (
    "append clear copy count endswith extend find get index insert isalnum isalpha isdigit islower isspace isupper items "
    "join keys ljust lower lstrip partition pop remove replace reverse rfind rjust rpartition rsplit rstrip setdefault "
    "split splitlines startswith strip update upper values zfill bit_length"
).split()
LIBRARY = {"heapq": "heappush heappop heapify", "math": "gcd lcm isqrt comb perm factorial",
           "itertools": "product combinations permutations chain accumulate pairwise islice zip_longest",
           "collections": "defaultdict"}
BARRED = (
    "register mro elements open input law version_info attrgetter breakpoint builtins compile copyright credits delattr "
    "dir eval exec exit gc globals help id importlib license locals methodcaller os quit super type vars sys filter "
    "format hash round float object frozenset print"
).split()
NODES = (
    ast.Global, ast.AsyncFunctionDef, ast.AsyncFor, ast.AsyncWith, ast.Await, ast.GeneratorExp, ast.Div, ast.MatMult,
    ast.Set, ast.SetComp, ast.AnnAssign, ast.Try, ast.Lambda, ast.Delete,
)
OPERATORS = ["__init__", "__eq__", "__contains__"]


def parsed():
    return {path.stem: ast.parse(path.read_text()) for path in sorted(PACKAGE.glob("*.py"))}


def defined(tree):
    return [node.name for node in tree.body if isinstance(node, (ast.FunctionDef, ast.ClassDef))]


def constants(tree):
    return [target.id for node in tree.body if isinstance(node, ast.Assign) for target in node.targets]


def nested(tree):
    """All functions that stand in functions."""
    functions = [node for node in ast.walk(tree) if isinstance(node, ast.FunctionDef)]
    return [inner.name for node in functions for inner in ast.walk(node)
            if isinstance(inner, ast.FunctionDef) and inner is not node]


def bound(tree):
    """All names of variables and parameters."""
    names = [node.id for node in ast.walk(tree) if isinstance(node, ast.Name) and isinstance(node.ctx, ast.Store)]
    return names + [node.arg for node in ast.walk(tree) if isinstance(node, ast.arg)]


class LanguageTest(unittest.TestCase):
    def setUp(self):
        self.trees = parsed()

    def nodes(self, kind):
        return [(name, node) for name, tree in self.trees.items() for node in ast.walk(tree) if isinstance(node, kind)]

    def test_files(self):
        for path in PACKAGE.iterdir():
            if path.name != "__pycache__":
                text = path.read_bytes()
                self.assertEqual((path.suffix, path.name), (".py", path.name.lower()))
                self.assertTrue(all(code == 10 or 32 <= code <= 126 for code in text), path.name)
                lines = text.decode("ascii").splitlines()
                self.assertLessEqual(len(lines), 399, path.name)
                self.assertLessEqual(max(len(line) for line in lines), 120, path.name)
                self.assertFalse(any(line.endswith(" ") for line in lines), path.name)

    def test_functions_are_small(self):
        for name, node in self.nodes(ast.FunctionDef):
            self.assertLessEqual(node.end_lineno - node.lineno + 1, 40, (name, node.name))
            self.assertIn([ast.unparse(item) for item in node.decorator_list], ([], ["property"]), (name, node.name))

    def test_no_other_statements_and_expressions(self):
        for name, node in self.nodes(NODES):
            self.fail(f"{name}, line {node.lineno if hasattr(node, 'lineno') else 0}: {node.__class__.__name__}")
        for name, node in self.nodes(ast.BinOp):
            if isinstance(node.op, ast.Pow):
                self.assertIsInstance(node.right, ast.Constant, (name, node.lineno))
        for name, node in self.nodes(ast.Constant):
            self.assertIn(node.value.__class__.__name__, ("int", "str", "bool", "NoneType"), (name, node.lineno))
            self.assertFalse(isinstance(node.value, str) and "%" in node.value, (name, node.lineno))

    def test_what_stands_at_module_level(self):
        for name, tree in self.trees.items():
            self.assertTrue(ast.get_docstring(tree), name)
            for node in tree.body[1:]:
                kinds = (ast.ImportFrom, ast.FunctionDef, ast.ClassDef, ast.Assign)
                self.assertIsInstance(node, kinds, (name, node.lineno))

    def test_imports(self):
        edges = {}
        for name, tree in self.trees.items():
            edges[name] = []
            for node in ast.walk(tree):
                self.assertNotIsInstance(node, ast.Import, name)
                if isinstance(node, ast.ImportFrom):
                    told = [alias.name for alias in node.names]
                    self.assertEqual([alias.asname for alias in node.names], [None] * len(told), name)
                    if node.module in LIBRARY:
                        self.assertLessEqual(set(told), set(LIBRARY[node.module].split()), name)
                    else:
                        package, module = node.module.split(".")
                        self.assertEqual((package, node.level), ("gapswaps", 0), name)
                        self.assertLessEqual(set(told), set(defined(self.trees[module]) + constants(self.trees[module])), name)
                        edges[name].append(module)
        # Whatever imports only what is taken away already can be taken away: no two files import from each other.
        while edges:
            free = [name for name in edges if not any(other in edges for other in edges[name])]
            self.assertTrue(free, edges)
            for name in free:
                del edges[name]

    def test_names(self):
        for name, tree in self.trees.items():
            imported = [alias.name for node in ast.walk(tree) if isinstance(node, ast.ImportFrom) for alias in node.names]
            classes = [node.name for node in tree.body if isinstance(node, ast.ClassDef)]
            for variable in bound(tree):
                self.assertNotIn(variable, imported + classes + BARRED, name)
                self.assertFalse(variable in dir(builtins) or variable.startswith("__"), (name, variable))
            for function in [node for node in ast.walk(tree) if isinstance(node, ast.FunctionDef)]:
                self.assertTrue(function.name in OPERATORS or not function.name.startswith("__"), (name, function.name))
                self.assertNotIn(function.name, dir(builtins), name)
            self.assertEqual(len(defined(tree)), len(set(defined(tree))), name)
            self.assertFalse(set(defined(tree)) & set(imported), name)

    def test_every_import_is_used(self):
        for name, tree in self.trees.items():
            read = [node.id for node in ast.walk(tree) if isinstance(node, ast.Name)]
            for node in ast.walk(tree):
                if isinstance(node, ast.ImportFrom):
                    for alias in node.names:
                        self.assertIn(alias.name, read, name)

    def test_what_is_read_and_called(self):
        methods = [node.name for _, node in self.nodes(ast.FunctionDef)]
        for name, tree in self.trees.items():
            known = bound(tree) + defined(tree) + nested(tree) + BUILTINS
            for node in ast.walk(tree):
                if isinstance(node, ast.ImportFrom):
                    known += [alias.name for alias in node.names]
            for node in ast.walk(tree):
                if isinstance(node, ast.Name):
                    self.assertIn(node.id, known, (name, node.lineno))
                if isinstance(node, ast.Call) and isinstance(node.func, ast.Attribute):
                    self.assertIn(node.func.attr, METHODS + methods, (name, node.lineno))
                    self.assertEqual(node.keywords, [], (name, node.lineno))

    def test_what_is_iterated_at_once(self):
        """What range, zip and the like return is neither kept nor handed on."""
        once = ("range", "zip", "enumerate", "reversed", "map")
        takers = ("list", "tuple", "dict", "sorted", "sum", "enumerate", "zip", "reversed", "min", "max")
        for name, tree in self.trees.items():
            allowed = [id(node.iter) for node in ast.walk(tree) if isinstance(node, (ast.For, ast.comprehension))]
            for node in ast.walk(tree):
                if isinstance(node, ast.Call) and isinstance(node.func, ast.Name):
                    if node.func.id in takers:
                        allowed += [id(argument) for argument in node.args]
            for node in ast.walk(tree):
                if isinstance(node, ast.Call) and isinstance(node.func, ast.Name):
                    self.assertNotIn(node.func.id, ("set", "frozenset"), (name, node.lineno))
                    if node.func.id in once:
                        self.assertIn(id(node), allowed, (name, node.lineno))


if __name__ == "__main__":
    unittest.main()
