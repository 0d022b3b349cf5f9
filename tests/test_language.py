"""Rules of ../shared/LANGUAGE.md that are easy to see from outside, for each file of the package."""

import ast
import pathlib
import re
import unittest

PACKAGE = pathlib.Path(__file__).resolve().parent.parent / "boxrows"

LIBRARY = {
    "math": {"gcd", "lcm", "isqrt", "comb", "perm", "factorial"},
    "heapq": {"heappush", "heappop", "heapify", "heapreplace", "heappushpop"},
    "itertools": {"product", "combinations", "permutations", "chain", "accumulate", "pairwise", "islice", "zip_longest"},
    "collections": {"defaultdict", "deque"},
}
BUILTINS = set(
    "len range enumerate zip min max sum abs sorted reversed int str bool bytes list tuple dict set frozenset"
    " isinstance ord repr any all divmod pow getattr hasattr setattr map iter next super property"
    " Exception ValueError TypeError KeyError IndexError LookupError ZeroDivisionError ArithmeticError"
    " OverflowError RuntimeError NotImplementedError AttributeError StopIteration NotImplemented".split()
)
WORDS = re.compile(
    r"\b(register|mro|elements|open|input|law|version_info|with_traceback|add_note|typing|enum|namedtuple"
    r"|eval|exec|globals|locals|vars|dir|help|id|compile|os|sys)\b"
)
BARRED = (ast.GeneratorExp, ast.AsyncFunctionDef, ast.Await, ast.Global, ast.Div, ast.MatMult)


def package_files():
    return sorted(path for path in PACKAGE.rglob("*") if path.is_file() and "__pycache__" not in path.parts)


def trees():
    return {path: ast.parse(path.read_text(encoding="utf-8")) for path in package_files()}


def module_of(path):
    return ".".join(path.relative_to(PACKAGE.parent).with_suffix("").parts)


def defined_names(tree):
    """The names that the statements of a module define themselves."""
    found = set()
    for node in tree.body:
        if isinstance(node, (ast.FunctionDef, ast.ClassDef)):
            found.add(node.name)
        elif isinstance(node, ast.Assign):
            found.update(target.id for target in node.targets)
    return found


def bound_names(tree):
    """All names that a file gives a meaning."""
    found = {node.id for node in ast.walk(tree) if isinstance(node, ast.Name) and not isinstance(node.ctx, ast.Load)}
    found |= {node.arg for node in ast.walk(tree) if isinstance(node, ast.arg)}
    found |= {node.name for node in ast.walk(tree) if isinstance(node, (ast.FunctionDef, ast.ClassDef))}
    return found | imported_names(tree)


def imported_names(tree):
    return {name.asname or name.name for node in tree.body if isinstance(node, ast.ImportFrom) for name in node.names}


class LanguageTest(unittest.TestCase):
    def test_files(self):
        self.assertTrue((PACKAGE / "__init__.py").is_file())
        for path in package_files():
            text = path.read_bytes()
            self.assertRegex(path.name, r"^[a-z_][a-z0-9_]*\.py$")
            self.assertTrue(all(sign == 10 or 32 <= sign <= 126 for sign in text), path.name)
            lines = text.decode("ascii").split("\n")
            self.assertLess(len(lines), 400, path.name)
            self.assertLessEqual(max(map(len, lines)), 120, path.name)

    def test_functions(self):
        for path, tree in trees().items():
            for node in ast.walk(tree):
                if isinstance(node, ast.FunctionDef):
                    self.assertLessEqual(node.end_lineno - node.lineno + 1, 40, f"{path.name} {node.name}")

    def test_imports(self):
        files = trees()
        names = {module_of(path): defined_names(tree) for path, tree in files.items()}
        for path, tree in files.items():
            for node in ast.walk(tree):
                self.assertNotIsInstance(node, ast.Import, path.name)
                if isinstance(node, ast.ImportFrom):
                    self.assertEqual(node.level, 0)
                    allowed = names.get(node.module, LIBRARY.get(node.module, set()))
                    self.assertLessEqual({name.name for name in node.names}, allowed, path.name)

    def test_no_imports_in_a_circle(self):
        uses = {module_of(path): {node.module for node in tree.body if isinstance(node, ast.ImportFrom)}
                for path, tree in trees().items()}
        while uses:
            free = [name for name in uses if not uses[name] & set(uses)]
            self.assertTrue(free, f"a circle among {sorted(uses)}")
            for name in free:
                del uses[name]

    def test_statements_and_values(self):
        for path, tree in trees().items():
            for node in ast.walk(tree):
                self.assertNotIsInstance(node, BARRED, path.name)
                if isinstance(node, ast.Constant):
                    self.assertNotIsInstance(node.value, (float, complex), path.name)
                if isinstance(node, ast.ClassDef):
                    self.assertEqual(node.decorator_list, [], path.name)

    def test_properties_are_not_assigned(self):
        nodes = [node for tree in trees().values() for node in ast.walk(tree)]
        properties = {node.name for node in nodes if isinstance(node, ast.FunctionDef)
                      and any(isinstance(mark, ast.Name) and mark.id == "property" for mark in node.decorator_list)}
        assigned = {node.attr for node in nodes if isinstance(node, ast.Attribute) and isinstance(node.ctx, ast.Store)}
        self.assertLessEqual({"wish", "points", "names"}, properties)
        self.assertEqual(properties & assigned, set())

    def test_attributes_that_are_read_are_there(self):
        nodes = [node for tree in trees().values() for node in ast.walk(tree)]
        there = {node.attr for node in nodes if isinstance(node, ast.Attribute) and isinstance(node.ctx, ast.Store)}
        there |= {node.name for node in nodes if isinstance(node, ast.FunctionDef)}
        there |= {name for kind in (str, list, dict) for name in vars(kind)}
        read = {node.attr for node in nodes if isinstance(node, ast.Attribute) and isinstance(node.ctx, ast.Load)}
        self.assertEqual(read - there, set())

    def test_names(self):
        for path, tree in trees().items():
            bound = bound_names(tree)
            imports = imported_names(tree)
            self.assertEqual({name for name in bound if WORDS.fullmatch(name)}, set(), path.name)
            self.assertEqual(bound & BUILTINS, set(), path.name)
            for node in ast.walk(tree):
                if isinstance(node, ast.Name) and isinstance(node.ctx, ast.Load) and node.id not in bound:
                    self.assertIn(node.id, BUILTINS, path.name)
                if isinstance(node, ast.Name) and not isinstance(node.ctx, ast.Load):
                    self.assertNotIn(node.id, imports, path.name)
                if isinstance(node, ast.arg):
                    self.assertNotIn(node.arg, imports, path.name)


if __name__ == "__main__":
    unittest.main()
