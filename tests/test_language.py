"""Those rules of LANGUAGE.md that a program can check with certainty, for all files of the package."""

import ast
import builtins
import re
import unittest
from pathlib import Path

PACKAGE = Path(__file__).resolve().parent.parent / "layernets"
FILES = sorted(path for path in PACKAGE.rglob("*") if path.is_file() and "__pycache__" not in path.parts)
TREES = {path: ast.parse(path.read_text(encoding="utf-8")) for path in FILES if path.suffix == ".py"}

# L2, L8, L25
LIBRARY = {
    "heapq": "heappush heappop heapify heapreplace heappushpop",
    "math": "gcd lcm isqrt comb perm factorial",
    "itertools": "product combinations permutations chain accumulate pairwise islice zip_longest",
    "collections": "defaultdict",
    "__future__": "annotations",
}
BUILTINS = """
    len range enumerate zip min max sum abs sorted reversed int str bool bytes list tuple dict set isinstance ord repr any all
    divmod pow getattr hasattr setattr Exception ValueError TypeError KeyError IndexError LookupError ZeroDivisionError ArithmeticError
    OverflowError RuntimeError NotImplementedError AttributeError StopIteration NotImplemented iter next map super property staticmethod
    classmethod object
""".split()
METHODS = """
    append clear copy count endswith extend find get index insert isalnum isalpha isdigit islower isspace isupper items join keys ljust
    lower lstrip partition pop remove replace reverse rfind rjust rpartition rsplit rstrip setdefault split splitlines startswith strip
    update upper values zfill bit_length title capitalize swapcase casefold center expandtabs removeprefix removesuffix rindex isascii
    isdecimal isnumeric istitle isidentifier isprintable translate maketrans sort add discard format encode decode hex from_iterable
""".split()


def nodes(*kinds):
    """Each file with each node of these kinds in it."""
    return [(path, node) for path, tree in TREES.items() for node in ast.walk(tree) if isinstance(node, kinds)]


def where(path, node):
    return f"{path.relative_to(PACKAGE.parent)}:{node.lineno}"


def defined(tree):
    """The names that a file itself binds at module level."""
    names = set()
    for node in tree.body:
        if isinstance(node, (ast.FunctionDef, ast.ClassDef)):
            names.add(node.name)
        if isinstance(node, ast.Assign):
            names.update(target.id for target in node.targets if isinstance(target, ast.Name))
    return names


class LanguageTest(unittest.TestCase):

    def test_files(self):
        for path in FILES:
            with self.subTest(path):
                self.assertEqual(path.suffix, ".py")
                self.assertRegex(path.stem, r"\A[a-z0-9_]+\Z")
                self.assertTrue((path.parent / "__init__.py").is_file())

    def test_signs_and_sizes(self):
        for path in TREES:
            lines = path.read_bytes().decode("utf-8").split("\n")
            self.assertLessEqual(len(lines) - 1, 399, path)
            for number, line in enumerate(lines):
                with self.subTest(path=path, line=number + 1):
                    self.assertTrue(all(" " <= sign <= "~" for sign in line))
                    self.assertLessEqual(len(line), 120)
        for path, node in nodes(ast.FunctionDef):
            self.assertLessEqual(node.end_lineno - node.lineno + 1, 40, where(path, node))

    def test_imports(self):
        for path, node in nodes(ast.Import):
            self.assertEqual((path.name, node.names[0].name), ("__main__.py", "sys"), where(path, node))
        for path, node in nodes(ast.ImportFrom):
            with self.subTest(where(path, node)):
                self.assertEqual(node.level, 0)
                self.assertIn(node, TREES[path].body)
                names = [alias.name for alias in node.names]
                if node.module in LIBRARY:
                    self.assertTrue(set(names) <= set(LIBRARY[node.module].split()))
                else:
                    source = PACKAGE.parent / (node.module.replace(".", "/") + ".py")
                    self.assertTrue(set(names) <= defined(TREES[source]))

    def test_no_two_files_import_each_other(self):
        imports = {path.stem: set() for path in TREES}
        for path, node in nodes(ast.ImportFrom):
            if node.module.startswith("layernets."):
                imports[path.stem].add(node.module.split(".")[-1])
        while imports:
            free = [name for name, others in imports.items() if not others & set(imports)]
            self.assertTrue(free, f"a circle among {sorted(imports)}")
            imports = {name: others for name, others in imports.items() if name not in free}

    def test_statements_and_signs_that_are_not_used(self):
        statements = nodes(ast.Global, ast.AsyncFunctionDef, ast.AsyncFor, ast.AsyncWith, ast.Await)
        self.assertEqual([where(path, node) for path, node in statements], [])
        for path, node in nodes(ast.BinOp, ast.AugAssign):
            self.assertNotIsInstance(node.op, (ast.Div, ast.MatMult), where(path, node))
        for path, node in nodes(ast.Constant):
            self.assertNotIsInstance(node.value, (float, complex), where(path, node))
            if isinstance(node.value, str):
                self.assertNotIn("%", node.value, where(path, node))

    def test_names(self):
        known = dir(builtins)
        for path, node in nodes(ast.Name):
            if path.name != "__main__.py" and node.id in known:
                self.assertIn(node.id, BUILTINS, where(path, node))
                self.assertIsInstance(node.ctx, ast.Load, where(path, node))
        for path, node in nodes(ast.FunctionDef, ast.ClassDef, ast.arg):
            name = node.arg if isinstance(node, ast.arg) else node.name
            methods = [child for _, kind in nodes(ast.ClassDef) for child in kind.body]
            if node not in methods:
                self.assertNotIn(name, known, where(path, node))

    def test_methods(self):
        own = {node.name for _, node in nodes(ast.FunctionDef)} | {node.attr for _, node in nodes(ast.Attribute) if isinstance(node.ctx, ast.Store)}
        for path, node in nodes(ast.Call):
            if isinstance(node.func, ast.Attribute) and node.func.attr != "__init__":
                self.assertIn(node.func.attr, own | set(METHODS), where(path, node))

    def test_classes_with_brackets(self):
        classes = [(path, node, {child.name: child for child in node.body if isinstance(child, ast.FunctionDef)}) for path, node in nodes(ast.ClassDef)]
        for path, node, methods in classes:
            if "__getitem__" in methods:
                self.assertIn("__iter__", methods, where(path, node))
                self.assertNotIn("keys", {name for _, _, others in classes for name in others}, where(path, node))
        for path in TREES:
            self.assertNotRegex(path.read_text(encoding="utf-8"), r"\(type\)|Meta|metaclass=")
        # Where a class has __eq__ or an operator, these take lists; reversed takes what is plainly a list.
        for path, node in nodes(ast.Call):
            if isinstance(node.func, ast.Name) and node.func.id in ("any", "all", "min", "max", "sum", "sorted"):
                self.assertFalse([one for one in node.args if isinstance(one, ast.GeneratorExp)], where(path, node))
            if isinstance(node.func, ast.Name):
                self.assertNotEqual(node.func.id, "reversed", where(path, node))

    def test_properties(self):
        """No method, and no attribute that is assigned, has the name of a property."""
        named, properties = set(), set()
        for _, node in nodes(ast.ClassDef):
            for child in node.body:
                if isinstance(child, ast.FunctionDef):
                    (properties if any(ast.unparse(one) == "property" for one in child.decorator_list) else named).add(child.name)
        named.update(node.attr for _, node in nodes(ast.Attribute) if isinstance(node.ctx, ast.Store))
        self.assertEqual(sorted(named & properties), [])

    def test_lengths(self):
        for path, node in nodes(ast.FunctionDef):
            if node.name == "__len__":
                self.assertRegex(ast.unparse(node.body[-1]), r"\Areturn (len\(.*\)|\d+)\Z", where(path, node))

    def test_decorators(self):
        for path, node in nodes(ast.FunctionDef, ast.ClassDef):
            for decorator in node.decorator_list:
                self.assertTrue(re.fullmatch(r"property|staticmethod|classmethod|[a-z_]+\.setter", ast.unparse(decorator)), where(path, node))
                self.assertNotIsInstance(node, ast.ClassDef, where(path, node))


if __name__ == "__main__":
    unittest.main()
