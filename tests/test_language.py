"""What can be seen mechanically of the rules in LANGUAGE.md, for each file of the package."""

import ast
import builtins
import pathlib
import unittest
import warnings

PACKAGE = pathlib.Path(__file__).resolve().parent.parent / "flowpieces"
LIBRARY = {
    "heapq": {"heappush", "heappop", "heapify", "heapreplace", "heappushpop"},
    "math": {"gcd", "lcm", "isqrt", "comb", "perm", "factorial"},
    "itertools": {
        "product", "combinations", "permutations", "chain", "accumulate", "pairwise", "islice", "zip_longest",
    },
    "collections": {"defaultdict", "deque"},
    "__future__": {"annotations"},
}
BUILTINS = set(
    "len range enumerate zip min max sum abs sorted reversed int str bool bytes list tuple dict set frozenset "
    "isinstance ord repr any all divmod pow getattr hasattr setattr iter next type map super property "
    "staticmethod classmethod "
    "Exception ValueError TypeError KeyError IndexError LookupError ZeroDivisionError ArithmeticError OverflowError "
    "RuntimeError NotImplementedError AttributeError StopIteration NotImplemented object".split()
)
NOWHERE = set("register mro elements open input law version_info with_traceback add_note".split())
STATEMENTS = (
    ast.AsyncFunctionDef, ast.AsyncFor, ast.AsyncWith, ast.Await, ast.Div, ast.MatMult, ast.Set, ast.Global, ast.Import,
)
PLAIN = (ast.Import, ast.ImportFrom, ast.FunctionDef, ast.ClassDef, ast.Assign, ast.Expr)


def files():
    return sorted(PACKAGE.glob("*.py"))


def trees():
    return [(path, ast.parse(path.read_text())) for path in files()]


def bound_names(tree):
    for node in ast.walk(tree):
        if isinstance(node, (ast.FunctionDef, ast.ClassDef)):
            yield node.name
        elif isinstance(node, ast.arg):
            yield node.arg
        elif isinstance(node, ast.Name) and isinstance(node.ctx, ast.Store):
            yield node.id


def module_names(tree):
    for node in tree.body:
        if isinstance(node, (ast.FunctionDef, ast.ClassDef)):
            yield node.name
        elif isinstance(node, ast.ImportFrom):
            yield from (alias.name for alias in node.names)
        elif isinstance(node, ast.Assign):
            yield from (target.id for target in node.targets)


class Language(unittest.TestCase):
    def test_the_folder_holds_plain_files_alone(self):
        found = [path for path in PACKAGE.iterdir() if path.name != "__pycache__"]
        self.assertTrue((PACKAGE / "__init__.py").is_file())
        for path in found:
            self.assertTrue(path.is_file() and path.suffix == ".py", path)

    def test_sizes_and_signs(self):
        for path in files():
            text = path.read_bytes().decode("ascii")
            self.assertTrue(all(sign == "\n" or " " <= sign <= "~" for sign in text), path)
            lines = text.split("\n")
            self.assertLessEqual(len(lines), 399, path)
            self.assertLessEqual(max(len(line) for line in lines), 120, path)
        for path, tree in trees():
            for node in ast.walk(tree):
                if isinstance(node, ast.FunctionDef):
                    self.assertLessEqual(node.end_lineno - node.lineno + 1, 40, f"{path}:{node.lineno}")

    def test_python_gives_no_warning(self):
        with warnings.catch_warnings():
            warnings.simplefilter("error")
            for path in files():
                compile(path.read_text(), str(path), "exec")

    def test_statements_and_signs(self):
        for path, tree in trees():
            for node in ast.walk(tree):
                self.assertNotIsInstance(node, STATEMENTS, f"{path}:{getattr(node, 'lineno', 0)}")
                if isinstance(node, ast.Constant):
                    self.assertNotIsInstance(node.value, (float, complex), f"{path}:{node.lineno}")

    def test_module_level(self):
        for path, tree in trees():
            for node in tree.body:
                self.assertIsInstance(node, PLAIN, f"{path}:{node.lineno}")
                if isinstance(node, ast.Expr):
                    self.assertIsInstance(node.value, ast.Constant, f"{path}:{node.lineno}")
            names = list(module_names(tree))
            self.assertEqual(len(names), len(set(names)), path)

    def test_imports(self):
        for path, tree in trees():
            for node in ast.walk(tree):
                if not isinstance(node, ast.ImportFrom):
                    continue
                self.assertEqual(node.level, 0, path)
                self.assertTrue(all(alias.asname is None for alias in node.names), path)
                names = {alias.name for alias in node.names}
                if node.module in LIBRARY:
                    self.assertLessEqual(names, LIBRARY[node.module], path)
                else:
                    folder, name = node.module.split(".")
                    self.assertEqual(folder, "flowpieces", path)
                    there = ast.parse((PACKAGE / f"{name}.py").read_text())
                    own = {one.name for one in there.body if isinstance(one, (ast.FunctionDef, ast.ClassDef))}
                    own |= {one.targets[0].id for one in there.body if isinstance(one, ast.Assign)}
                    self.assertLessEqual(names, own, path)

    def test_imports_run_in_no_circle(self):
        needs = {path.stem: set() for path in files()}
        for path, tree in trees():
            for node in tree.body:
                if isinstance(node, ast.ImportFrom) and node.module.startswith("flowpieces."):
                    needs[path.stem].add(node.module.split(".")[1])
        while needs:
            free = [name for name, others in needs.items() if not others & set(needs)]
            self.assertTrue(free, needs)
            for name in free:
                del needs[name]

    def test_names(self):
        for path, tree in trees():
            imported = {name for node in tree.body if isinstance(node, ast.ImportFrom) for name in module_names(
                ast.Module(body=[node], type_ignores=[]))}
            for name in bound_names(tree):
                if name.startswith("__"):
                    continue
                self.assertFalse(hasattr(builtins, name), f"{path}: {name}")
                self.assertNotIn(name, NOWHERE, path)
                self.assertNotIn(name, imported, path)

    def test_builtins(self):
        for path, tree in trees():
            for node in ast.walk(tree):
                if isinstance(node, ast.Name) and hasattr(builtins, node.id):
                    self.assertIn(node.id, BUILTINS, f"{path}:{node.lineno}")

    def test_is_stands_beside_none_true_and_false(self):
        for path, tree in trees():
            for node in ast.walk(tree):
                if isinstance(node, ast.Compare) and any(isinstance(sign, (ast.Is, ast.IsNot)) for sign in node.ops):
                    self.assertIsInstance(node.comparators[0], ast.Constant, f"{path}:{node.lineno}")


if __name__ == "__main__":
    unittest.main()
