"""Where each thing of the document's interface is defined, and by which names its arguments go."""

import ast
import importlib
import inspect
import pathlib
import unittest

PACKAGE = pathlib.Path(__file__).resolve().parent.parent / "figuredeeds"
FUNCTIONS = {
    "looks": {"is_look": "(thing)", "is_test": "(thing)", "value_of": "(look, eyes)", "holds": "(test, eyes)"},
    "plays": {"is_block": "(thing)", "is_play": "(thing)"},
    "controls": {"unrolled": "(rest, frames, eyes, pieces)"},
    "replays": {"replay": "(play, log, *, most=100, copies=6)", "as_of": "(stage, many)",
                "shows_log": "(play, thing, *, most=100, copies=6)"},
    "parting": {"parted": "(play, other, happenings, *, most=60)",
                "shows_parted": "(play, other, happenings, thing)"},
    "papers": {"alike_paper": "(play, other, happenings, *, most=60)",
               "shows_alike": "(play, other, happenings, thing)"},
    "texts": {"play_text": "(play)", "play_in": "(text)"},
    "desk": {"run": "(text, *, most=100, copies=6)"},
}
CLASSES = {
    "ground": {"Ground": {
        "__init__": "(self, play)", "ones": "(self)", "spot": "(self, one)", "is_shown": "(self, one)",
        "names": "(self, *, one=None)", "lists": "(self, *, one=None)", "met": "(self, one)",
        "eyes": "(self, one, *, params=())", "copy": "(self, one)", "end": "(self, one)", "twin": "(self)",
        "do": "(self, one, deed, *, params=())", "__len__": "(self)", "__eq__": "(self, other)",
    }},
    "stage": {"Stage": {
        "__init__": "(self, play, *, most=100, copies=6)", "flag": "(self)", "key": "(self, name)",
        "touch": "(self, figure, *, number=0)", "news": "(self, name)", "turn": "(self)", "start": "(self)",
        "step": "(self)", "rest": "(self)", "is_open": "(self)", "ones": "(self)",
        "spot": "(self, figure, *, number=0)", "is_shown": "(self, figure, *, number=0)",
        "names": "(self, *, figure=None, number=0)", "lists": "(self, *, figure=None, number=0)", "runs": "(self)",
        "state": "(self)", "seen": "(self)", "tale": "(self, *, first=0)", "log": "(self, *, first=0)",
        "twin": "(self)", "__len__": "(self)", "__eq__": "(self, other)",
    }},
    "errors": {
        "Fell": {"__init__": "(self, word)"}, "Open": {}, "NotOpen": {}, "BadPlay": {"__init__": "(self, play)"},
        "BadLine": {"__init__": "(self, line)"}, "NoOne": {"__init__": "(self, figure, number)"},
        "NoTurn": {"__init__": "(self, many)"}, "TooMany": {"__init__": "(self, most)"},
    },
}
CONSTANTS = {"stage": {"MOST_ITEMS": 100, "MOST_COPIES": 6}, "parting": {"MOST_PAIRS": 60}}


def defined(file, kind):
    """What stands at a file's outer level by such a statement, by name."""
    tree = ast.parse((PACKAGE / f"{file}.py").read_text())
    return {node.name: node for node in tree.body if isinstance(node, kind)}


class Interface(unittest.TestCase):
    def test_functions(self):
        for file, functions in FUNCTIONS.items():
            module = importlib.import_module(f"figuredeeds.{file}")
            for name, signature in functions.items():
                with self.subTest(f"{file} {name}"):
                    self.assertIn(name, defined(file, ast.FunctionDef))
                    self.assertEqual(str(inspect.signature(getattr(module, name))), signature)

    def test_classes_and_their_methods(self):
        for file, classes in CLASSES.items():
            module = importlib.import_module(f"figuredeeds.{file}")
            for name, methods in classes.items():
                self.assertIn(name, defined(file, ast.ClassDef))
                for method, signature in methods.items():
                    with self.subTest(f"{name} {method}"):
                        # In the class itself, not in one above it.
                        self.assertEqual(str(inspect.signature(vars(getattr(module, name))[method])), signature)

    def test_constants(self):
        for file, constants in CONSTANTS.items():
            module = importlib.import_module(f"figuredeeds.{file}")
            tree = ast.parse((PACKAGE / f"{file}.py").read_text())
            assigned = [target.id for node in tree.body if isinstance(node, ast.Assign) for target in node.targets]
            for name, value in constants.items():
                self.assertIn(name, assigned)
                self.assertEqual(getattr(module, name), value)

    def test_no_error_stands_under_another_one_of_this_program(self):
        errors = importlib.import_module("figuredeeds.errors")
        ours = [getattr(errors, name) for name in CLASSES["errors"]]
        for error in ours:
            self.assertEqual([other for other in ours if issubclass(error, other)], [error])


if __name__ == "__main__":
    unittest.main()
