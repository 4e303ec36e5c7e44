"""The interface: each name in its file, with its arguments."""

import importlib
import inspect
import unittest

# Most is handed in by its name and is 200 where it is not told.
FUNCTIONS = {
    "terms": {
        "size_of": ["pattern"], "depth_of": ["pattern"], "unknowns_of": ["pattern"], "in_order": ["terms"],
        "rows_in_order": ["rows"], "calls_in_order": ["calls"], "matched": ["pattern", "term", "filling"],
        "put_in": ["pattern", "filling"], "title_of": ["pattern"], "fact_of": ["call", "row"],
    },
    "pieces": {"pieces_of": ["line", "*most"]},
    "operators": {"own": [], "let_by": ["operators"]},
    "reader": {
        "read_term": ["line", "operators", "*most"], "read_goal": ["line", "operators", "*most"],
        "read_line": ["line", "operators", "*most"], "read_text": ["lines", "*most"],
    },
    "writer": {"written": ["pattern", "operators"], "written_line": ["row", "operators"], "plain": ["pattern"]},
}
CLASSES = {
    "errors": [
        "GoalError", "BadPiece", "BadSize", "BadShape", "BadOperator", "Modeless", "Ill", "Mixed", "Notring", "NoCall",
        "Open", "Round",
        "NoTurn", "NoRow", "NoMode", "NoPaper", "NoAnswer", "NoPlace", "NoRoom", "NoStep", "Taken", "NoName",
    ],
}


def argument(parameter):
    if parameter.kind == inspect.Parameter.KEYWORD_ONLY:
        return f"*{parameter.name}"
    return parameter.name


class InterfaceTest(unittest.TestCase):
    def test_each_function_stands_in_its_file_with_its_arguments(self):
        for file, functions in FUNCTIONS.items():
            module = importlib.import_module(f"goalstead.{file}")
            for name, wanted in functions.items():
                with self.subTest(file=file, name=name):
                    function = getattr(module, name)
                    self.assertEqual(function.__module__, module.__name__)
                    parameters = inspect.signature(function).parameters.values()
                    self.assertEqual([argument(parameter) for parameter in parameters], wanted)
                    for parameter in parameters:
                        default = 200 if parameter.name == "most" else inspect.Parameter.empty
                        self.assertEqual(parameter.default, default)

    def test_each_class_stands_in_its_file(self):
        for file, classes in CLASSES.items():
            module = importlib.import_module(f"goalstead.{file}")
            for name in classes:
                with self.subTest(file=file, name=name):
                    self.assertTrue(inspect.isclass(getattr(module, name)))
                    self.assertEqual(getattr(module, name).__module__, module.__name__)


if __name__ == "__main__":
    unittest.main()
