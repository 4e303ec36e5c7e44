"""What can be counted of the rules for the package's files: folders, sizes, signs, names and kinds of statements."""

import ast
import builtins
import pathlib
import re
import unittest

from goalstead import errors

PACKAGE = pathlib.Path(__file__).resolve().parent.parent / "goalstead"


# What may be called of Python's own, and the kinds of nodes that the package does without.
BUILTINS = """
    len range enumerate zip min max sum abs sorted reversed int str bool list tuple dict set isinstance ord repr any all
    divmod map iter next ValueError KeyError
""".split()
UNUSED = (
    ast.GeneratorExp, ast.Yield, ast.YieldFrom, ast.AsyncFunctionDef, ast.Await, ast.Global, ast.Nonlocal, ast.With,
    ast.NamedExpr, ast.Set, ast.SetComp, ast.Div, ast.MatMult, ast.Pow, ast.Delete, ast.AnnAssign,
)
BARRED = r"\b(type|typing|enum|Enum|Flag|Generic|Protocol|ABC|namedtuple|NamedTuple|TypedDict|abstractmethod)\b"
BARRED_STARTS = r"_(wall|pe_|dcw_|enum_|cm_|twin_re_|lay_|law_|stub_|sre|WallAttr)"
BARRED_NAMES = r"_(cold|tuplegetter|outside|record|written_out|member_names)[0-9_]*"
BARRED_EVERYWHERE = "register mro elements open input law version_info with_traceback add_note".split()
METHODS = """
    append clear copy count endswith extend find get index insert isalnum isalpha isdigit islower isspace isupper items
    join keys ljust lower lstrip partition pop remove replace reverse rfind rjust rpartition rsplit rstrip setdefault
    split splitlines startswith strip update upper values zfill bit_length
""".split()


def files():
    return sorted(PACKAGE.rglob("*.py"))


def trees():
    return [(path.name, ast.parse(path.read_text(encoding="utf-8"))) for path in files()]


def bound_names(tree):
    """The names of parameters, variables, functions and classes."""
    for node in ast.walk(tree):
        if isinstance(node, ast.arg):
            yield node.arg
        elif isinstance(node, ast.Name) and isinstance(node.ctx, ast.Store):
            yield node.id
        elif isinstance(node, (ast.FunctionDef, ast.ClassDef)):
            yield node.name


def methods_of(tree):
    """The names of the methods of a file's classes."""
    for kind in ast.walk(tree):
        if isinstance(kind, ast.ClassDef):
            yield from [node.name for node in kind.body if isinstance(node, ast.FunctionDef)]


class LanguageTest(unittest.TestCase):
    def test_the_package_holds_python_files_alone(self):
        for path in PACKAGE.rglob("*"):
            if "__pycache__" not in path.parts and path.is_file():
                self.assertEqual(path.suffix, ".py", path)
        self.assertTrue((PACKAGE / "__init__.py").is_file())

    def test_files_and_lines_are_short_and_have_plain_signs(self):
        for path in files():
            lines = path.read_text(encoding="utf-8").split("\n")
            self.assertLessEqual(len(lines) - 1, 399, path)
            for number, line in enumerate(lines, 1):
                with self.subTest(file=path.name, line=number):
                    self.assertLessEqual(len(line), 120)
                    self.assertTrue(all(" " <= sign <= "~" for sign in line))

    def test_functions_are_short(self):
        for path in files():
            for node in ast.walk(ast.parse(path.read_text(encoding="utf-8"))):
                if isinstance(node, ast.FunctionDef):
                    with self.subTest(file=path.name, function=node.name):
                        self.assertLessEqual(node.end_lineno - node.lineno + 1, 40)

    def test_imports_stand_at_the_top_and_name_files_of_the_package(self):
        names = {f"goalstead.{path.stem}" for path in files()}
        library = {"heapq", "math", "itertools", "collections", "__future__"}
        for path in files():
            tree = ast.parse(path.read_text(encoding="utf-8"))
            for node in ast.walk(tree):
                if isinstance(node, (ast.Import, ast.ImportFrom)):
                    with self.subTest(file=path.name, line=node.lineno):
                        self.assertIn(node, tree.body)
                        if path.name != "__main__.py":
                            self.assertIsInstance(node, ast.ImportFrom)
                            self.assertIn(node.module, names | library)
                            self.assertEqual(node.level, 0)

    def test_no_name_is_that_of_a_builtin_or_of_an_import_or_a_class_of_the_file(self):
        for file, tree in trees():
            taken = {node.name for node in tree.body if isinstance(node, ast.ClassDef)}
            taken |= {name.name for node in tree.body if isinstance(node, ast.ImportFrom) for name in node.names}
            names = list(bound_names(tree))
            for name in names:
                with self.subTest(file=file, name=name):
                    self.assertNotIn(name, dir(builtins))
                    self.assertFalse(name.startswith("__") and name not in ("__init__",))
                    self.assertTrue(name not in taken or names.count(name) == 1)

    def test_only_some_builtins_and_methods_are_called(self):
        own = {name for _, tree in trees() for name in methods_of(tree)}
        for file, tree in trees():
            for node in ast.walk(tree):
                with self.subTest(file=file, node=ast.unparse(node)[:60] if isinstance(node, ast.expr) else ""):
                    if isinstance(node, ast.Name) and isinstance(node.ctx, ast.Load) and node.id in dir(builtins):
                        self.assertIn(node.id, BUILTINS)
                    if isinstance(node, ast.Call) and isinstance(node.func, ast.Attribute):
                        self.assertIn(node.func.attr, own | set(METHODS))

    def test_kinds_of_nodes_that_are_not_used(self):
        for file, tree in trees():
            constants = [node.value for node in tree.body if isinstance(node, ast.Assign)]
            within = {id(inner) for value in constants for inner in ast.walk(value)}
            for node in ast.walk(tree):
                with self.subTest(file=file, line=getattr(node, "lineno", 0)):
                    # A power stands in a bound alone, with a literal on its right.
                    if not (id(node) in within and isinstance(node, (ast.Pow, ast.BinOp))):
                        self.assertNotIsInstance(node, UNUSED)
                    if isinstance(node, (ast.FunctionDef, ast.ClassDef)):
                        self.assertEqual(node.decorator_list, [])
                    if isinstance(node, ast.Compare) and isinstance(node.ops[0], (ast.Is, ast.IsNot)):
                        self.assertIn(ast.unparse(node.comparators[0]), ("None", "True", "False"))
                    if isinstance(node, ast.Constant):
                        self.assertIsInstance(node.value, (int, str, type(None)))

    def test_words_and_signs_that_stand_nowhere(self):
        for path in files():
            text = path.read_text(encoding="utf-8")
            with self.subTest(path.name):
                self.assertIsNone(re.search(BARRED, text))
                self.assertNotIn("_wall", text)
                for node in ast.walk(ast.parse(text)):
                    if isinstance(node, ast.Constant) and isinstance(node.value, str):
                        self.assertNotIn("%", node.value)

    def test_names_that_are_barred(self):
        for file, tree in trees():
            names = list(bound_names(tree)) + [node.attr for node in ast.walk(tree) if isinstance(node, ast.Attribute)]
            names += [node.arg for node in ast.walk(tree) if isinstance(node, ast.keyword) and node.arg]
            names += [node.id for node in ast.walk(tree) if isinstance(node, ast.Name)]
            for name in names:
                with self.subTest(file=file, name=name):
                    self.assertIsNone(re.match(BARRED_STARTS, name))
                    self.assertIsNone(re.fullmatch(BARRED_NAMES, name))
                    self.assertNotIn(name, BARRED_EVERYWHERE)

    def test_errors_that_are_caught_are_the_packages_own(self):
        for file, tree in trees():
            for node in ast.walk(tree):
                if isinstance(node, ast.ExceptHandler):
                    self.assertIn(node.type.id, dir(errors), (file, node.lineno))
                if isinstance(node, ast.Try):
                    for inner in [each for row in node.finalbody for each in ast.walk(row) if isinstance(each, ast.Call)]:
                        self.assertEqual(inner.func.attr, "append", (file, inner.lineno))

    def test_no_name_is_a_method_and_an_attribute_of_one_class(self):
        for file, tree in trees():
            for kind in [node for node in ast.walk(tree) if isinstance(node, ast.ClassDef)]:
                methods = {node.name for node in kind.body if isinstance(node, ast.FunctionDef)}
                stored = {node.attr for node in ast.walk(kind)
                          if isinstance(node, ast.Attribute) and isinstance(node.ctx, ast.Store)}
                with self.subTest(file=file, kind=kind.name):
                    self.assertEqual(methods & stored, set())

    def test_no_name_is_a_method_of_one_class_and_an_attribute_of_another(self):
        methods = {name for _, tree in trees() for name in methods_of(tree)}
        stored = {node.attr for _, tree in trees() for node in ast.walk(tree)
                  if isinstance(node, ast.Attribute) and isinstance(node.ctx, ast.Store)}
        self.assertEqual(methods & stored, set())

    def test_attributes_have_no_names_of_builtin_values(self):
        taken = {name for kind in (int, str, bytes, list, dict, set, tuple) for name in dir(kind)}
        for file, tree in trees():
            for node in ast.walk(tree):
                if isinstance(node, ast.Attribute) and isinstance(node.ctx, ast.Store):
                    self.assertNotIn(node.attr, taken, file)

    def test_no_two_files_import_from_each_other(self):
        named = {path.stem: set() for path in files()}
        for file, tree in trees():
            for node in tree.body:
                if isinstance(node, ast.ImportFrom):
                    named[file[:-3]].add(node.module.split(".")[-1])
        for _ in named:
            named = {one: others.union(*[named[other] for other in others]) for one, others in named.items()}
        for one, others in named.items():
            self.assertNotIn(one, others)


if __name__ == "__main__":
    unittest.main()
