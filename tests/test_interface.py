"""The interface: every name in its file, with its arguments as named."""

import importlib
import inspect
import unittest

FUNCTIONS = {
    "operations": {
        "is_operation": ["value"],
        "is_log": ["value"],
        "is_tolerance": ["value"],
        "surely_before": ["log", "tolerance", "one", "other"],
    },
    "values": {
        "values_of": ["log"],
        "operations_of": ["log", "value"],
        "write_of": ["log", "value"],
        "first_end": ["log", "value"],
        "last_begin": ["log", "value"],
        "is_before": ["log", "tolerance", "one", "other"],
    },
    "faults": {
        "faults": ["log", "tolerance"],
        "shows_fault": ["log", "tolerance", "value"],
        "bound_of": ["log", "fault"],
    },
    "orders": {
        "explains": ["log", "tolerance", "value"],
        "can_explain": ["log", "tolerance"],
        "order_for": ["log", "tolerance"],
        "moments": ["log", "tolerance", "order"],
        "shows_moments": ["log", "tolerance", "value"],
    },
    "least": {
        "least_tolerance": ["log"],
        "tight": ["log"],
        "evidence": ["log"],
        "shows_least": ["log", "tolerance", "value"],
    },
    "choices": {
        "must_precede": ["log", "tolerance", "one", "other"],
        "positions": ["log", "tolerance", "value"],
        "order_with": ["log", "tolerance", "value", "position"],
        "final_values": ["log", "tolerance"],
    },
}


class Interface(unittest.TestCase):

    def listed(self):
        for module, functions in FUNCTIONS.items():
            for name, arguments in functions.items():
                yield module, getattr(importlib.import_module("clockslack." + module), name), arguments

    def test_each_function_is_defined_in_its_file(self):
        for module, function, _ in self.listed():
            self.assertTrue(inspect.isfunction(function))
            self.assertEqual(function.__module__, "clockslack." + module)

    def test_each_function_takes_its_arguments_by_position_or_by_name(self):
        for _, function, arguments in self.listed():
            parameters = inspect.signature(function).parameters.values()
            self.assertEqual([parameter.name for parameter in parameters], arguments, function.__name__)
            for parameter in parameters:
                self.assertIs(parameter.kind, inspect.Parameter.POSITIONAL_OR_KEYWORD)
                self.assertIs(parameter.default, inspect.Parameter.empty)


if __name__ == "__main__":
    unittest.main()
