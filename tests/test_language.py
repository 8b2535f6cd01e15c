"""Rules of the program's Python subset that can be seen in its text."""

import ast
import pathlib
import re
import unittest

PACKAGE = pathlib.Path(__file__).resolve().parent.parent / "powernumbers"
LIBRARY = {
    "math": {"gcd", "lcm", "isqrt", "comb", "perm", "factorial"},
    "heapq": {"heappush", "heappop", "heapify", "heapreplace", "heappushpop"},
    "itertools": {
        "product", "combinations", "permutations",
        "chain", "accumulate", "pairwise", "islice", "zip_longest",
    },
    "collections": {"defaultdict", "deque"},
    "__future__": {"annotations"},
}
BUILTINS = set(
    "len range enumerate zip min max sum abs sorted reversed int str bool list tuple dict set frozenset map"
    " isinstance ord repr any all divmod pow getattr hasattr setattr iter next type"
    " property staticmethod classmethod super object Exception ValueError TypeError KeyError IndexError"
    " LookupError ZeroDivisionError ArithmeticError OverflowError RuntimeError NotImplementedError"
    " AttributeError StopIteration NotImplemented".split()
)
PYTHONS_OWN = set(dir(__builtins__) if not isinstance(__builtins__, dict) else __builtins__)


def package_files():
    return [path for path in sorted(PACKAGE.rglob("*")) if path.is_file() and path.parent.name != "__pycache__"]


def nodes_of(kinds):
    for path in package_files():
        for node in ast.walk(ast.parse(path.read_text(encoding="ascii"))):
            if isinstance(node, kinds):
                yield path, node


class TestLanguage(unittest.TestCase):
    def test_package_holds_plainly_named_python_files_only(self):
        self.assertTrue(package_files())
        for path in package_files():
            self.assertRegex(path.name, r"^([a-z][a-z0-9_]*|__init__|__main__)\.py$")
            self.assertTrue((path.parent / "__init__.py").is_file(), path)

    def test_sizes_and_signs(self):
        for path in package_files():
            rows = path.read_text(encoding="ascii").split("\n")
            self.assertLessEqual(len(rows), 400, path)
            for row in rows:
                self.assertLessEqual(len(row), 120, (path, row))
                self.assertRegex(row, r"^[ -~]*$", path)

    def test_functions_have_at_most_forty_rows(self):
        for path, node in nodes_of(ast.FunctionDef):
            self.assertLessEqual(node.end_lineno - node.lineno + 1, 40, (path, node.name))

    def test_imports(self):
        self.assertEqual([path for path, _ in nodes_of(ast.Import) if path.name != "__main__.py"], [])
        for path, node in nodes_of(ast.ImportFrom):
            self.assertEqual(node.level, 0, path)
            if node.module.split(".")[0] == PACKAGE.name:
                file = PACKAGE.parent.joinpath(*node.module.split(".")).with_suffix(".py")
                self.assertTrue(file.is_file(), (path, node.module))
            else:
                for alias in node.names:
                    self.assertIn(alias.name, LIBRARY[node.module], path)
                    self.assertIsNone(alias.asname, path)

    def test_no_two_files_import_from_each_other(self):
        needs = {}
        for path, node in nodes_of(ast.ImportFrom):
            needs.setdefault(path, set()).add(PACKAGE.parent.joinpath(*node.module.split(".")).with_suffix(".py"))
        # What imports nothing that is left goes, round by round; a ring would stay.
        while needs:
            done = [path for path in needs if not needs[path] & set(needs)]
            self.assertTrue(done, needs)
            for path in done:
                del needs[path]

    def test_no_other_builtins(self):
        for path, node in nodes_of(ast.Name):
            if node.id in PYTHONS_OWN and path.name != "__main__.py":
                self.assertIn(node.id, BUILTINS, (path, node.lineno))

    def test_no_floats_and_no_division_into_them(self):
        for path, node in nodes_of((ast.Div, ast.Constant)):
            self.assertNotIsInstance(node, ast.Div, path)
            if isinstance(node, ast.Constant):
                self.assertNotIsInstance(node.value, (float, complex), path)

    def test_exponents_are_small_literals(self):
        for path, node in nodes_of(ast.BinOp):
            if isinstance(node.op, ast.Pow):
                self.assertIsInstance(node.right, ast.Constant, (path, node.lineno))
                self.assertIn(node.right.value, range(65), (path, node.lineno))

    def test_what_is_iterated_at_once_is_not_handed_back(self):
        names = {"range", "zip", "enumerate", "reversed", "map", "pairwise", "chain", "accumulate", "islice"}
        for path, node in nodes_of(ast.Return):
            if isinstance(node.value, ast.Call) and isinstance(node.value.func, ast.Name):
                self.assertNotIn(node.value.func.id, names, (path, node.lineno))

    def test_no_sign_for_per_cent_in_strings(self):
        for path, node in nodes_of(ast.Constant):
            if isinstance(node.value, str):
                self.assertNotIn("%", node.value, (path, node.lineno))

    def test_names(self):
        for path in package_files():
            for word in re.findall(r"\b__?\w+", path.read_text(encoding="ascii")):
                self.assertRegex(word, r"^(_|_[A-Za-z]\w*|__[a-z]+__)$", path)


if __name__ == "__main__":
    unittest.main()
