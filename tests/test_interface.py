"""The names of the interface: where they are defined, and what their parameters are called."""

import importlib
import inspect
import unittest

# A parameter behind * is passed by name only.
FUNCTIONS = {
    ("weavings", "position_of"): ["mix", "weaving"],
    ("weavings", "check_possible"): ["mix", "weaving"],
    ("weavings", "orders"): ["mix", "*", "by='transactions'"],
    ("ways", "way"): ["mix", "weaving", "kind"],
    ("results", "result"): ["mix", "weaving", "database"],
    ("results", "serial_result"): ["mix", "order", "database"],
    ("judging", "judge"): ["mix", "*", "by='transactions'", "returns=True"],
    ("looker", "is_certificate"): ["mix", "thing", "*", "by='transactions'", "returns=True"],
    ("looker", "is_standing"): ["one", "other", "thing", "*", "company=None", "returns=True", "strict=False"],
    ("repairs", "with_table"): ["mix", "chosen"],
    ("repairs", "raised"): ["mix", "chosen"],
    ("repairs", "least_table"): ["mix", "*", "by='transactions'", "returns=True"],
    ("repairs", "least_raised"): ["mix", "*", "by='transactions'", "returns=True"],
    ("repairs", "first_broken"): ["mix", "condition"],
    ("tracing", "trace"): ["mix", "history", "*", "by='weavings'"],
    ("tracing", "is_trace"): ["mix", "history", "thing", "*", "by='weavings'"],
    ("runs", "play"): ["mix", "weaving", "database"],
    ("runs", "drive"): ["mix", "database", "picks"],
    ("replacing", "joined"): ["company", "part"],
    ("replacing", "stands_for"): ["one", "other", "*", "company=None", "returns=True", "strict=False"],
}
CLASSES = {
    ("statements", "Statement"): {
        "__init__": ["self", "text", "table"], "new_values": ["self", "values"], "names": ["self"], "__eq__": ["self", "other"],
        "__str__": ["self"],
    },
    ("mixes", "Transaction"): {
        "__init__": ["self", "statements", "*", "ends='commit'", "level='committed'"], "__len__": ["self"],
    },
    ("mixes", "Mix"): {
        "__init__": ["self", "table", "sessions"], "__len__": ["self"], "names": ["self"], "kinds": ["self"], "transactions": ["self"],
        "units": ["self"], "__str__": ["self"], "__eq__": ["self", "other"], "of": ["table", "*sessions"], "read": ["text"],
    },
    ("weavings", "Weavings"): {
        "__init__": ["self", "mix"], "__len__": ["self"], "each": ["self"], "__contains__": ["self", "thing"],
    },
    ("ways", "Way"): {"__eq__": ["self", "other"]},
    ("results", "Result"): {"__eq__": ["self", "other"]},
    ("judging", "Verdict"): {"__bool__": ["self"], "__len__": ["self"]},
    ("replacing", "Standing"): {"__bool__": ["self"], "__len__": ["self"]},
    ("tracing", "Trace"): {"__bool__": ["self"], "__len__": ["self"]},
    ("engine", "Database"): {
        "__init__": ["self", "table", "rows"], "committed": ["self"], "begin": ["self", "*", "level='committed'"],
    },
    ("engine", "Session"): {
        "start": ["self", "statement"], "visit": ["self", "target"], "finish": ["self"], "do": ["self", "statement"],
        "commit": ["self"], "undo": ["self"],
    },
    ("runs", "Run"): {},
}


def parameters(function):
    """Return the parameters as they are written above."""
    text = str(inspect.signature(function))
    return [part for part in text.strip("()").split(", ") if part]


class InterfaceTest(unittest.TestCase):
    def test_functions(self):
        for (file, name), wanted in FUNCTIONS.items():
            function = getattr(importlib.import_module(f"newestrow.{file}"), name)
            self.assertEqual(function.__module__, f"newestrow.{file}")
            self.assertEqual(parameters(function), wanted, name)

    def test_classes(self):
        for (file, name), methods in CLASSES.items():
            cls = getattr(importlib.import_module(f"newestrow.{file}"), name)
            self.assertEqual(cls.__module__, f"newestrow.{file}")
            for method, wanted in methods.items():
                with self.subTest(cls=name, method=method):
                    self.assertIn(method, vars(cls))
                    self.assertEqual(parameters(getattr(cls, method)), wanted)

    def test_is_open_is_a_property_of_sessions(self):
        cls = importlib.import_module("newestrow.engine").Session
        self.assertIsInstance(vars(cls)["is_open"], property)

    def test_each_gives_one_by_one(self):
        cls = importlib.import_module("newestrow.weavings").Weavings
        self.assertTrue(inspect.isgeneratorfunction(cls.each))


if __name__ == "__main__":
    unittest.main()
