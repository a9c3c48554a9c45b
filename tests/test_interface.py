"""The interface: names, arguments, and the files in which all of it is defined."""

import importlib
import inspect
import unittest

TIMED = "(schedule, forth, back, *, wait=0)"

FUNCTIONS = {
    "nets": {
        "layer_forward": "(net, layer, vector)",
        "layer_back": "(net, layer, vector, slopes)",
        "forward": "(net, vector)",
        "portion_slopes": "(net, portion)",
        "changed": "(net, slopes, rate)",
        "train": "(net, batch, rate)",
    },
    "cuts": {
        "is_cut": "(n, cut)",
        "stage_layers": "(cut)",
        "stage_of": "(cut, layer)",
        "best_cut": "(costs, stages)",
        "cut_paper": "(costs, stages)",
        "judge_cut": "(costs, stages, most, paper)",
    },
    "schedules": {
        "needs": "(schedule, deed)",
        "some_order": "(schedule)",
        "kept_at_most": "(schedule)",
        "under_way": "(schedule, order)",
    },
}

# For each class its methods, and the attributes that each object has from the beginning.
CLASSES = {
    "errors": {
        "StageError": {},
        "InvalidNumber": {"__init__": "(self, number)"},
        "InvalidCut": {"__init__": "(self, cut)"},
        "InvalidRows": {"__init__": "(self, rows)"},
        "NoMachine": {"__init__": "(self, machine)"},
        "NoLetter": {"__init__": "(self, number)"},
        "NotDone": {"__init__": "(self, machine)"},
        "InvalidText": {"__init__": "(self, text, line)"},
        "TooMany": {"__init__": "(self, many)"},
    },
    "nets": {
        "Net": {
            "__init__": "(self, prime, weights, kinds)",
            "__len__": "(self)",
            "__eq__": "(self, other)",
        },
    },
    "schedules": {
        "Schedule": {
            "__init__": "(self, machines, stages, portions, rows)",
            "__eq__": "(self, other)",
        },
    },
}

PROPERTIES = {"nets": {"Net": ("width",)}}


class Interface(unittest.TestCase):
    def test_functions(self):
        for module, functions in FUNCTIONS.items():
            found = importlib.import_module(f"stagesfull.{module}")
            for name, signature in functions.items():
                function = getattr(found, name)
                self.assertTrue(inspect.isfunction(function), name)
                self.assertEqual(function.__module__, found.__name__)
                self.assertEqual(str(inspect.signature(function)), signature, name)

    def test_classes(self):
        for module, classes in CLASSES.items():
            found = importlib.import_module(f"stagesfull.{module}")
            for name, methods in classes.items():
                one = getattr(found, name)
                self.assertTrue(inspect.isclass(one), name)
                self.assertEqual(one.__module__, found.__name__)
                for method, signature in methods.items():
                    self.assertIn(method, vars(one), name)
                    self.assertEqual(str(inspect.signature(vars(one)[method])), signature, method)

    def test_properties(self):
        for module, classes in PROPERTIES.items():
            found = importlib.import_module(f"stagesfull.{module}")
            for name, properties in classes.items():
                for one in properties:
                    self.assertIsInstance(vars(getattr(found, name))[one], property)


if __name__ == "__main__":
    unittest.main()
