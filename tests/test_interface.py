"""The interface as it is listed: where each name is defined, and the names and kinds of the parameters."""

import importlib
import inspect
import unittest

FUNCTIONS = {
    "running": {
        "check_steps": "(steps)",
        "run": "(picture, steps)",
        "pictures_along": "(picture, steps)",
    },
    "algebra": {
        "compose": "(*effects)",
        "power": "(effect, count)",
        "commute": "(one, other)",
        "is_idempotent": "(effect)",
        "undo": "(effect)",
        "separating_picture": "(one, other)",
    },
    "sizes": {
        "outcome": "(steps, height, width)",
        "act_alike": "(one_steps, other_steps)",
        "differing_picture": "(one_steps, other_steps)",
        "running_size": "(steps)",
    },
    "powers": {
        "power_summary": "(effect, exponent)",
        "power_colour": "(effect, exponent, row, column)",
    },
    "shortening": {
        "shortest": "(effect)",
        "shortest_length": "(effect)",
        "hidden_pairs": "(steps)",
    },
    "observations": {
        "effects_between": "(before, after)",
        "agreeing_effects": "(observations)",
    },
    "plans": {
        "distance": "(start, goal)",
        "plan": "(start, goal)",
    },
    "painting": {
        "paint": "(wishes)",
    },
    "formats": {
        "format_picture": "(picture)",
        "format_steps": "(steps)",
        "format_effect": "(effect)",
        "parse_picture": "(text)",
        "parse_steps": "(text)",
        "parse_effect": "(text)",
    },
}
CLASSES = {
    "pictures": {
        "Picture": {
            "__init__": "(self, rows)",
            "filled": "(cls, height, width, colour)",
            "numbered": "(cls, height, width, *, first=0)",
            "rows": None, "height": None, "width": None,
            "__getitem__": "(self, at)",
            "__contains__": "(self, colour)",
            "line": "(self, side)",
            "turned": "(self)",
            "mirrored": "(self)",
            "cut": "(self, side)",
            "added": "(self, side, colour)",
            "__eq__": "(self, other)",
            "__repr__": "(self)",
        },
    },
    "symmetries": {
        "Symmetry": {
            "__init__": "(self, turns=0, mirrors=False)",
            "every": "()",
            "turns": None, "mirrors": None,
            "__mul__": "(self, other)",
            "inverse": "(self)",
            "side": "(self, side)",
            "steps": "(self)",
            "apply": "(self, picture)",
            "__eq__": "(self, other)",
            "__repr__": "(self)",
        },
    },
    "frames": {
        "Frame": {
            "__init__": "(self, lines)",
            "around": "(picture, row, column, height, width)",
            "widths": None,
            "colours": "(self, side)",
            "colour": "(self, row, column)",
            "order": "(self)",
            "orders": "(self)",
            "count_orders": "(self)",
            "peelable": "(self)",
            "cut": "(self, side)",
            "moved": "(self, symmetry)",
            "enclose": "(self, picture)",
            "__eq__": "(self, other)",
            "__len__": "(self)",
            "__repr__": "(self)",
        },
    },
    "effects": {
        "Effect": {
            "__init__": "(self, symmetry, lost, frame)",
            "of": "(cls, steps)",
            "identity": "(cls)",
            "symmetry": None, "lost": None, "frame": None, "smallest": None,
            "apply": "(self, picture)",
            "then": "(self, other)",
            "__eq__": "(self, other)",
            "__repr__": "(self)",
        },
    },
    "galleries": {
        "Gallery": {
            "__init__": "(self, pictures)",
            "run": "(self, user, name, steps)",
            "undo": "(self, user)",
            "picture": "(self, name)",
            "names": None, "entries": None,
            "copy": "(self)",
            "__eq__": "(self, other)",
            "__len__": "(self)",
        },
    },
    "console": {
        "Console": {
            "__init__": "(self)",
            "execute": "(self, line)",
            "__len__": "(self)",
        },
    },
}
KINDS = {
    "filled": classmethod, "numbered": classmethod, "every": staticmethod, "around": staticmethod, "of": classmethod,
    "identity": classmethod,
}


class TestInterface(unittest.TestCase):

    def test_functions(self):
        for file, functions in FUNCTIONS.items():
            module = importlib.import_module("pictureframes." + file)
            for name, signature in functions.items():
                function = getattr(module, name)
                self.assertEqual(function.__module__, module.__name__)
                self.assertEqual(str(inspect.signature(function)), signature)

    def test_classes(self):
        for file, classes in CLASSES.items():
            module = importlib.import_module("pictureframes." + file)
            for class_name, methods in classes.items():
                owner = getattr(module, class_name)
                self.assertEqual(owner.__module__, module.__name__)
                for name, signature in methods.items():
                    self.check_method(vars(owner)[name], name, signature)

    def check_method(self, held, name, signature):
        """Compare what a class's own body holds under a name with what is listed; None stands for a property."""
        if signature is None:
            self.assertIsInstance(held, property, name)
            return
        self.assertIs(type(held), KINDS.get(name, type(self.check_method.__func__)), name)
        self.assertEqual(str(inspect.signature(getattr(held, "__func__", held))), signature, name)


if __name__ == "__main__":
    unittest.main()
