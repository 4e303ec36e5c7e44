"""The interface: each name in its file, with its arguments."""

import importlib
import inspect
import unittest

# What stands behind a star is handed in by its name.
FUNCTIONS = {
    "terms": {
        "size_of": ["pattern"], "depth_of": ["pattern"], "unknowns_of": ["pattern"], "in_order": ["terms"],
        "rows_in_order": ["rows"], "calls_in_order": ["calls"], "matched": ["pattern", "term", "filling"],
        "put_in": ["pattern", "filling"], "title_of": ["pattern"], "fact_of": ["call", "row"],
    },
    "pieces": {"pieces_of": ["line", "*most"]},
    "operators": {"own": [], "let_by": ["operators"]},
    "reader": {
        "read_term": ["line", "operators", "*most"], "read_goal": ["line", "operators", "*most"],
        "read_line": ["line", "operators", "*most"], "read_text": ["lines", "*most"],
    },
    "writer": {"written": ["pattern", "operators"], "written_line": ["row", "operators"], "plain": ["pattern"]},
    "sums": {
        "worth_of": ["tree", "places"], "ends_of": ["tree", "box"], "holds": ["test", "places"], "out": ["test", "box"],
    },
    "fields": {
        "resolved": ["goal", "filling"], "points_of": ["box", "tests"], "tight_of": ["box", "tests"],
        "cuts_of": ["box", "tests"], "shown": ["box", "tests", "lines"],
    },
    "walking": {"walk_clause": ["program", "line", "mode", "ins", "told"]},
    "lots": {
        "lot_of": ["house", "call", "*most"], "leads_of": ["house", "call", "*most"],
        "verdict_of": ["house", "call", "*most"],
    },
    "books": {"book_of": ["house", "call", "*most"], "answers_of": ["house", "call", "*most"]},
    "papers": {
        "warrant_of": ["program", "call", "*most"], "turn_of": ["program", "call", "*most"],
        "grounds_of": ["program", "call", "row", "*most"],
    },
    "lookers": {
        "step_holds": ["program", "told", "steps", "number"], "warrant_holds": ["program", "call", "paper"],
        "turn_holds": ["program", "call", "paper"],
    },
    "codes": {"run": ["codes", "ins", "told"], "fits": ["codes", "many"]},
    "laying": {"laid": ["program", "line", "mode"]},
    "tidying": {"tidied": ["codes", "many"], "is_tidy": ["codes", "many"]},
    "picking": {"picked": ["program", "call"]},
}
CLASSES = {
    "errors": [
        "GoalError", "BadPiece", "BadSize", "BadShape", "BadOperator", "Modeless", "Ill", "Mixed", "Notring", "NoCall",
        "Open", "Round",
        "NoTurn", "NoRow", "NoMode", "NoPaper", "NoAnswer", "NoPlace", "NoRoom", "NoStep", "Taken", "NoName",
    ],
    "program": ["Program"],
    "image": ["Image"],
    "desk": ["Desk"],
}
METHODS = {
    ("program", "Program"): {
        "__init__": ["rows"], "titles": [], "modes": ["title"], "is_tabled": ["title"], "clauses": ["title"],
        "comes_to": ["title"], "layer": ["title"], "clause": ["line"], "plan": ["line", "mode"],
        "walk": ["call", "told", "*most"],
    },
    ("image", "Image"): {
        "__init__": ["program"], "walk": ["call", "told", "*most"], "modes": ["title"], "is_tabled": ["title"],
        "layer": ["title"], "codes_of": ["title", "mode"], "renew": ["program"],
    },
    ("desk", "Desk"): {
        "__init__": ["lines", "*most"], "put": ["at", "line"], "cut": ["at"], "change": ["at", "line"], "undo": [],
        "again": [], "keep": ["name", "question"], "drop": ["name"], "lines": [], "neat": [], "deeds": [], "log": [],
        "kept": [], "births": [], "state": ["name"], "birth": ["name"], "ask": ["question", "*by_codes"],
        "paper": ["question"], "why": ["question", "number"], "said": ["question", "number"],
        "codes_of": ["title", "mode"],
    },
}
DEFAULTS = {"most": 200, "by_codes": False}


def argument(parameter):
    if parameter.kind == inspect.Parameter.KEYWORD_ONLY:
        return f"*{parameter.name}"
    return parameter.name


class InterfaceTest(unittest.TestCase):
    def assert_arguments(self, function, wanted):
        parameters = [each for each in inspect.signature(function).parameters.values() if each.name != "self"]
        self.assertEqual([argument(parameter) for parameter in parameters], wanted)
        for parameter in parameters:
            self.assertEqual(parameter.default, DEFAULTS.get(parameter.name, inspect.Parameter.empty))

    def test_each_function_stands_in_its_file_with_its_arguments(self):
        for file, functions in FUNCTIONS.items():
            module = importlib.import_module(f"goalstead.{file}")
            for name, wanted in functions.items():
                with self.subTest(file=file, name=name):
                    function = getattr(module, name)
                    self.assertEqual(function.__module__, module.__name__)
                    self.assert_arguments(function, wanted)

    def test_each_class_stands_in_its_file(self):
        for file, classes in CLASSES.items():
            module = importlib.import_module(f"goalstead.{file}")
            for name in classes:
                with self.subTest(file=file, name=name):
                    self.assertTrue(inspect.isclass(getattr(module, name)))
                    self.assertEqual(getattr(module, name).__module__, module.__name__)

    def test_each_method_stands_in_its_class_with_its_arguments(self):
        for (file, name), methods in METHODS.items():
            kind = getattr(importlib.import_module(f"goalstead.{file}"), name)
            for method, wanted in methods.items():
                with self.subTest(name=name, method=method):
                    self.assertIn(method, vars(kind))
                    self.assert_arguments(vars(kind)[method], wanted)

    def test_busy_is_set_when_a_desk_is_made(self):
        kind = getattr(importlib.import_module("goalstead.desk"), "Desk")
        self.assertIs(vars(kind([]))["busy"], False)


if __name__ == "__main__":
    unittest.main()
