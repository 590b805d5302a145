"""The interface: every name in its file, with its arguments as named."""

import importlib
import inspect
import unittest

FUNCTIONS = {
    "operations": {
        "is_operation": ["value"],
        "is_log": ["value"],
        "is_tolerance": ["value"],
        "surely_before": ["log", "tolerance", "one", "other"],
    },
    "values": {
        "values_of": ["log"],
        "operations_of": ["log", "value"],
        "write_of": ["log", "value"],
        "first_end": ["log", "value"],
        "last_begin": ["log", "value"],
        "is_before": ["log", "tolerance", "one", "other"],
    },
    "faults": {
        "faults": ["log", "tolerance"],
        "shows_fault": ["log", "tolerance", "value"],
        "bound_of": ["log", "fault"],
    },
    "orders": {
        "explains": ["log", "tolerance", "value"],
        "can_explain": ["log", "tolerance"],
        "order_for": ["log", "tolerance"],
        "moments": ["log", "tolerance", "order"],
        "shows_moments": ["log", "tolerance", "value"],
    },
    "least": {
        "least_tolerance": ["log"],
        "tight": ["log"],
        "evidence": ["log"],
        "shows_least": ["log", "tolerance", "value"],
    },
    "choices": {
        "must_precede": ["log", "tolerance", "one", "other"],
        "positions": ["log", "tolerance", "value"],
        "order_with": ["log", "tolerance", "value", "position"],
        "final_values": ["log", "tolerance"],
    },
    "reads": {
        "readable": ["log", "tolerance", "begin", "end"],
        "must_return": ["log", "tolerance", "begin", "end"],
    },
    "trades": {
        "tolerance_without": ["log", "count"],
        "trade": ["log"],
    },
    "logs": {
        "moved": ["log", "amount"],
        "widened": ["log", "amount"],
        "without": ["log", "values"],
    },
    "trials": {
        "tried": ["recorder", "look"],
    },
    "texts": {
        "format_log": ["log"],
        "format_order": ["order"],
        "format_fault": ["fault"],
        "parse_log": ["text"],
        "parse_fault": ["text"],
        "chart": ["log"],
    },
}
# These have by as well, which is passed by name only.
FUNCTIONS_WITH_BY = {
    "fewest_aside": ["log", "tolerance"],
    "aside": ["log", "tolerance"],
    "heights": ["log", "tolerance"],
    "shows_aside": ["log", "tolerance", "value"],
}
# The methods that each class defines itself, with their arguments behind the first one.
METHODS = {
    "recorder": {"Recorder": {
        "__init__": ["tolerance"], "write": ["value", "begin", "end"], "read": ["value", "begin", "end"],
        "allow": ["tolerance"], "undo": [], "first_fault": [], "least": [], "copy": [], "__call__": ["begin", "end"]}},
    "trials": {"Trial": {"__init__": ["recorder"]}},
    "desk": {"Desk": {"__init__": [], "say": ["line"]}},
}
SPECIAL = {
    "recorder": {"Recorder": ["__getitem__", "__contains__", "__len__", "__add__", "__eq__", "of", "log", "tolerance",
                              "changes", "MOST"]},
    "trials": {"Trial": ["__enter__", "__exit__"]},
}


def found_in(module, name):
    return getattr(importlib.import_module("clockslack." + module), name)




class Interface(unittest.TestCase):

    def listed(self):
        for module, functions in FUNCTIONS.items():
            for name, arguments in functions.items():
                yield module, found_in(module, name), arguments

    def plain(self, parameters, arguments):
        self.assertEqual([parameter.name for parameter in parameters], arguments)
        for parameter in parameters:
            self.assertIs(parameter.kind, inspect.Parameter.POSITIONAL_OR_KEYWORD)

    def test_each_function_is_defined_in_its_file(self):
        names = [("aside", name) for name in FUNCTIONS_WITH_BY] + [("logs", "joined")]
        functions = [(module, function) for module, function, _ in self.listed()]
        for module, function in functions + [(module, found_in(module, name)) for module, name in names]:
            self.assertTrue(inspect.isfunction(function))
            self.assertEqual(function.__module__, "clockslack." + module)

    def test_each_function_takes_its_arguments_by_position_or_by_name(self):
        for _, function, arguments in self.listed():
            parameters = list(inspect.signature(function).parameters.values())
            self.plain(parameters, arguments)
            self.assertTrue(all(parameter.default is inspect.Parameter.empty for parameter in parameters))

    def test_by_is_taken_by_name(self):
        for name, arguments in FUNCTIONS_WITH_BY.items():
            *parameters, last = inspect.signature(found_in("aside", name)).parameters.values()
            self.plain(parameters, arguments)
            self.assertEqual((last.name, last.kind, last.default), ("by", inspect.Parameter.KEYWORD_ONLY, "values"))

    def test_joined_takes_any_number_of_logs(self):
        parameters = inspect.signature(found_in("logs", "joined")).parameters.values()
        self.assertEqual([parameter.kind for parameter in parameters], [inspect.Parameter.VAR_POSITIONAL])

    def test_each_class_is_defined_in_its_file_with_its_methods(self):
        for module, classes in METHODS.items():
            for name, methods in classes.items():
                made = found_in(module, name)
                self.assertTrue(inspect.isclass(made))
                self.assertEqual(made.__module__, "clockslack." + module)
                for method, arguments in methods.items():
                    self.assertIn(method, vars(made))
                    self.plain(list(inspect.signature(vars(made)[method]).parameters.values())[1:], arguments)

    def test_what_else_each_class_defines_itself(self):
        for module, classes in SPECIAL.items():
            for name, parts in classes.items():
                for part in parts:
                    self.assertIn(part, vars(found_in(module, name)))

    def test_the_default_tolerance(self):
        recorder = found_in("recorder", "Recorder")
        for function in (recorder, recorder.of):
            self.assertEqual(inspect.signature(function).parameters["tolerance"].default, 0)
        self.plain(list(inspect.signature(recorder.of).parameters.values()), ["log", "tolerance"])


if __name__ == "__main__":
    unittest.main()
