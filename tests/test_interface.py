"""The interface: names, arguments, and the files in which all of it is defined."""

import importlib
import inspect
import unittest

TIMED = "(schedule, forth, back, *, wait=0)"
TIMED_MOMENT = "(schedule, forth, back, moment, *, wait=0)"

FUNCTIONS = {
    "nets": {
        "layer_forward": "(net, layer, vector)",
        "layer_back": "(net, layer, vector, slopes)",
        "forward": "(net, vector)",
        "portion_slopes": "(net, portion)",
        "changed": "(net, slopes, rate)",
        "train": "(net, batch, rate)",
    },
    "cuts": {
        "is_cut": "(n, cut)",
        "stage_layers": "(cut)",
        "stage_of": "(cut, layer)",
        "best_cut": "(costs, stages)",
        "cut_paper": "(costs, stages)",
        "judge_cut": "(costs, stages, most, paper)",
    },
    "schedules": {
        "needs": "(schedule, deed)",
        "some_order": "(schedule)",
        "kept_at_most": "(schedule)",
        "under_way": "(schedule, order)",
    },
    "rules": {
        "fill_and_drain": "(machines, stages, portions)",
        "one_and_one": "(machines, portions, under)",
        "row_text": "(schedule)",
        "read_rows": "(text)",
    },
    "times": {"starts": TIMED, "span": TIMED, "chain": TIMED, "idle": TIMED},
    "leasts": {
        "least_span": "(machines, portions, under, forth, back)",
        "least_span_many": "(machines, stages, portions, forth, back)",
        "efficiency": "(machines, portions, under)",
        "portions_for": "(machines, under, over, below)",
    },
    "campaigns": {
        "campaign": "(net, legs)",
        "epoch_slopes": "(net, batches)",
    },
    "momenta": {
        "zeros": "(net)",
        "pushed": "(net, push, slopes, rate, friction, decay)",
        "train_pushed": "(net, batches, rate, friction, decay)",
    },
    "polynomials": {
        "loss": "(net, batch)",
        "loss_polynomial": "(net, batch, layer, i, k)",
        "at": "(net, polynomial, number)",
    },
    "plans": {"best_plan": "(forth, back, kept, machines, portions, room)"},
    "moments": {
        "events": TIMED,
        "busy_at": TIMED_MOMENT,
        "portions_at": TIMED_MOMENT,
        "most_under_way": TIMED,
    },
    "falls": {
        "time_with_falls": "(work, every, cost, falls)",
        "units_again": "(work, every, cost, falls)",
        "least_every": "(work, cost, falls)",
    },
    "counts": {
        "count_schedules": "(machines, stages, portions)",
        "schedule_of_number": "(machines, stages, portions, number)",
        "number_of_schedule": "(schedule)",
    },
    "searches": {
        "least_found": "(machines, stages, portions, under, forth, back)",
        "least_of_tables": "(machines, stages, portions, forth, back, *, wait=0)",
    },
    "lates": {
        "late_train": "(net, cut, batch, schedule, rate)",
        "version_used": "(schedule, portion, stage)",
    },
    "stands": {
        "write_net": "(net)",
        "read_net": "(text)",
    },
    "bounds": {"bottleneck": "(machines, stages, portions, forth, back, *, wait=0)"},
    "pictures": {"picture": TIMED},
    "snapshots": {
        "snapshot": "(run)",
        "restored": "(net, cut, batch, schedule, rate, saved, *, again=False, own=False)",
    },
    "slacks": {
        "delayed_span": "(schedule, forth, back, extra, *, wait=0)",
        "slack": TIMED,
    },
    "rooms": {"best_again": "(kept, costs, room)"},
    "replicas": {
        "train_replicas": "(net, batches, rate)",
        "flat": "(slopes)",
        "unflat": "(net, row)",
    },
    "twos": {
        "makespan": "(works, order)",
        "best_order": "(works)",
    },
    "audits": {
        "letter_due": "(net, cut, batch, schedule, letter)",
        "run_time": "(schedule, forth, back, machine, slower)",
    },
}

# For each class its methods.
CLASSES = {
    "errors": {
        "StageError": {},
        "InvalidNumber": {"__init__": "(self, number)"},
        "InvalidCut": {"__init__": "(self, cut)"},
        "InvalidRows": {"__init__": "(self, rows)"},
        "NoMachine": {"__init__": "(self, machine)"},
        "NoLetter": {"__init__": "(self, number)"},
        "NotDone": {"__init__": "(self, machine)"},
        "InvalidText": {"__init__": "(self, text, line)"},
        "TooMany": {"__init__": "(self, many)"},
    },
    "nets": {
        "Net": {
            "__init__": "(self, prime, weights, kinds)",
            "__len__": "(self)",
            "__eq__": "(self, other)",
        },
    },
    "schedules": {
        "Schedule": {
            "__init__": "(self, machines, stages, portions, rows)",
            "__eq__": "(self, other)",
        },
    },
    "works": {
        "Work": {
            "__init__": "(self, net, layers, again, own=False, rate=0)",
            "go_forward": "(self, portion, vectors)",
            "go_back": "(self, portion, slopes)",
            "sums": "(self)",
            "kept": "(self)",
            "change": "(self, rate)",
            "matrices": "(self)",
            "versions": "(self)",
        },
    },
    "runs": {
        "Run": {
            "__init__": "(self, net, cut, batch, schedule, rate, *, again=False, own=False)",
            "post": "(self, machine)",
            "letters": "(self)",
            "deliver": "(self, number)",
            "double": "(self, number)",
            "lose": "(self, number)",
            "place_of": "(self, machine)",
            "keep": "(self, machine)",
            "fall": "(self, machine)",
            "is_done": "(self)",
            "calm": "(self)",
            "trained": "(self)",
            "layers_by_machine": "(self)",
            "__len__": "(self)",
        },
    },
    "rings": {
        "Ring": {
            "__init__": "(self, vectors)",
            "post": "(self, machine)",
            "letters": "(self)",
            "deliver": "(self, number)",
            "double": "(self, number)",
            "lose": "(self, number)",
            "calm": "(self)",
            "is_done": "(self)",
            "row": "(self, machine)",
            "__len__": "(self)",
        },
    },
}

PROPERTIES = {"nets": {"Net": ("width",)}, "rings": {"Ring": ("numbers_said",)}}


class Interface(unittest.TestCase):
    def test_functions(self):
        for module, functions in FUNCTIONS.items():
            found = importlib.import_module(f"stagesfull.{module}")
            for name, signature in functions.items():
                function = getattr(found, name)
                self.assertTrue(inspect.isfunction(function), name)
                self.assertEqual(function.__module__, found.__name__)
                self.assertEqual(str(inspect.signature(function)), signature, name)

    def test_classes(self):
        for module, classes in CLASSES.items():
            found = importlib.import_module(f"stagesfull.{module}")
            for name, methods in classes.items():
                one = getattr(found, name)
                self.assertTrue(inspect.isclass(one), name)
                self.assertEqual(one.__module__, found.__name__)
                for method, signature in methods.items():
                    self.assertIn(method, vars(one), name)
                    self.assertEqual(str(inspect.signature(vars(one)[method])), signature, method)

    def test_properties(self):
        for module, classes in PROPERTIES.items():
            found = importlib.import_module(f"stagesfull.{module}")
            for name, properties in classes.items():
                for one in properties:
                    self.assertIsInstance(vars(getattr(found, name))[one], property)


if __name__ == "__main__":
    unittest.main()
