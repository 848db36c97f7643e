"""What ../shared/LANGUAGE.md says of files that a look at them can tell: their place, size, imports and names."""

import ast
import pathlib
import unittest

PACKAGE = pathlib.Path(__file__).resolve().parent.parent / "surecrowd"
BUILTINS = {"len", "range", "enumerate", "zip", "min", "max", "sum", "abs", "sorted", "reversed", "int", "str",
            "bool", "list", "tuple", "dict", "set", "isinstance", "any", "all", "divmod", "ValueError"}
LIBRARY = {"heapq": {"heappush", "heappop"}, "math": {"gcd", "isqrt", "comb"},
           "itertools": {"product", "combinations", "permutations"}}


def own_files():
    return sorted(path for path in PACKAGE.rglob("*.py"))


def functions_of(tree):
    return [node for node in ast.walk(tree) if isinstance(node, ast.FunctionDef)]


class TestLanguage(unittest.TestCase):
    def test_the_package_holds_nothing_but_its_files(self):
        held = [path for path in PACKAGE.rglob("*") if "__pycache__" not in path.parts]
        self.assertEqual([path.name for path in held if path.suffix != ".py"], [])
        self.assertIn(PACKAGE / "__init__.py", held)

    def test_characters_and_sizes(self):
        for path in own_files():
            text = path.read_bytes().decode("ascii")
            with self.subTest(path.name):
                self.assertTrue(all(" " <= sign <= "~" or sign == "\n" for sign in text))
                self.assertLessEqual(len(text.splitlines()), 399)
                self.assertLessEqual(max(map(len, text.splitlines())), 120)
                for node in functions_of(ast.parse(text)):
                    self.assertLessEqual(node.end_lineno - node.lineno + 1, 40, node.name)

    def test_imports_are_of_the_package_or_allowed_words_of_the_library(self):
        for path in own_files():
            for node in ast.walk(ast.parse(path.read_text())):
                with self.subTest(path.name):
                    self.assertNotIsInstance(node, ast.Import)
                    if isinstance(node, ast.ImportFrom) and not node.module.startswith("surecrowd."):
                        self.assertLessEqual({name.name for name in node.names}, LIBRARY[node.module])

    def test_no_float_and_no_outside_builtin(self):
        for path in own_files():
            tree = ast.parse(path.read_text())
            known = set(BUILTINS)
            for node in ast.walk(tree):
                if isinstance(node, (ast.FunctionDef, ast.ClassDef)):
                    known.add(node.name)
                elif isinstance(node, ast.arg):
                    known.add(node.arg)
                elif isinstance(node, ast.alias):
                    known.add(node.name)
                elif isinstance(node, ast.Name) and isinstance(node.ctx, ast.Store):
                    known.add(node.id)
            for node in ast.walk(tree):
                with self.subTest(path.name):
                    self.assertNotIsInstance(node, (ast.Div, ast.Global, ast.AsyncFunctionDef, ast.GeneratorExp))
                    if isinstance(node, ast.Name):
                        self.assertIn(node.id, known)

    def test_a_module_holds_only_what_stands_still(self):
        allowed = (ast.Expr, ast.ImportFrom, ast.FunctionDef, ast.ClassDef, ast.Assign)
        for path in own_files():
            for node in ast.parse(path.read_text()).body:
                with self.subTest(path.name, line=node.lineno):
                    self.assertIsInstance(node, allowed)
                    if isinstance(node, ast.Expr):
                        self.assertIsInstance(node.value, ast.Constant)
                    if isinstance(node, (ast.FunctionDef, ast.ClassDef)):
                        self.assertEqual(node.decorator_list, [])


if __name__ == "__main__":
    unittest.main()
