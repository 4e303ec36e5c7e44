"""What can be counted of the rules for the package's files: folders, sizes and signs."""

import ast
import pathlib
import unittest

PACKAGE = pathlib.Path(__file__).resolve().parent.parent / "goalstead"


def files():
    return sorted(PACKAGE.rglob("*.py"))


class LanguageTest(unittest.TestCase):
    def test_the_package_holds_python_files_alone(self):
        for path in PACKAGE.rglob("*"):
            if "__pycache__" not in path.parts and path.is_file():
                self.assertEqual(path.suffix, ".py", path)
        self.assertTrue((PACKAGE / "__init__.py").is_file())

    def test_files_and_lines_are_short_and_have_plain_signs(self):
        for path in files():
            lines = path.read_text(encoding="utf-8").split("\n")
            self.assertLessEqual(len(lines) - 1, 399, path)
            for number, line in enumerate(lines, 1):
                with self.subTest(file=path.name, line=number):
                    self.assertLessEqual(len(line), 120)
                    self.assertTrue(all(" " <= sign <= "~" for sign in line))

    def test_functions_are_short(self):
        for path in files():
            for node in ast.walk(ast.parse(path.read_text(encoding="utf-8"))):
                if isinstance(node, ast.FunctionDef):
                    with self.subTest(file=path.name, function=node.name):
                        self.assertLessEqual(node.end_lineno - node.lineno + 1, 40)

    def test_imports_stand_at_the_top_and_name_files_of_the_package(self):
        names = {f"goalstead.{path.stem}" for path in files()}
        library = {"heapq", "math", "itertools", "collections", "__future__"}
        for path in files():
            tree = ast.parse(path.read_text(encoding="utf-8"))
            for node in ast.walk(tree):
                if isinstance(node, (ast.Import, ast.ImportFrom)):
                    with self.subTest(file=path.name, line=node.lineno):
                        self.assertIn(node, tree.body)
                        if path.name != "__main__.py":
                            self.assertIsInstance(node, ast.ImportFrom)
                            self.assertIn(node.module, names | library)
                            self.assertEqual(node.level, 0)


if __name__ == "__main__":
    unittest.main()
