"""[2], [76]: each name stands in its module, with its arguments."""

import inspect
import unittest

import groupcaps
from groupcaps import best, errors, even, evidence, ranges, systems, totals

FUNCTIONS = {
    systems: {
        "is_system": ["value"],
        "system_error": ["value"],
        "capacity_of": ["system", "item"],
        "gain_of_units": ["system", "item", "units"],
        "is_plan": ["system", "value"],
        "fits": ["system", "value"],
        "broken_groups": ["system", "plan"],
        "gain_of": ["system", "plan"],
    },
    totals: {
        "totals_of": ["system"],
        "low_bound": ["system", "value"],
        "high_bound": ["system", "value"],
        "find_reasons": ["system"],
        "is_contradiction": ["system", "value"],
        "certificate": ["system"],
        "is_certificate": ["system", "value"],
    },
    best: {
        "greatest_gain": ["system"],
        "best_plan": ["system"],
        "gain_at": ["system", "total"],
        "plan_at": ["system", "total"],
        "gain_steps": ["system"],
    },
    evidence: {
        "price_bound": ["system", "value"],
        "after_exchange": ["system", "plan", "exchange"],
        "is_gaining": ["system", "plan", "value"],
        "judge": ["system", "plan"],
        "is_judgement": ["system", "plan", "value"],
        "best_prices": ["system"],
    },
    ranges: {
        "unit_range": ["system", "item"],
        "next_best": ["system", "plan"],
        "walk_best": ["system"],
        "count_best": ["system"],
        "distance": ["one", "other"],
        "way_between": ["system", "first", "last"],
        "is_way": ["system", "first", "last", "value"],
    },
    even: {
        "is_as_even": ["one", "other"],
        "even_plan": ["system", "total"],
        "evening_move": ["system", "plan"],
    },
}


class InterfaceTest(unittest.TestCase):
    def test_functions(self):
        for module, functions in FUNCTIONS.items():
            for name, arguments in functions.items():
                with self.subTest(name=name):
                    function = getattr(module, name)
                    self.assertTrue(inspect.isfunction(function))
                    self.assertEqual(function.__module__, module.__name__)
                    parameters = inspect.signature(function).parameters.values()
                    self.assertEqual([parameter.name for parameter in parameters], arguments)
                    for parameter in parameters:
                        self.assertEqual(parameter.kind, parameter.POSITIONAL_OR_KEYWORD)
                        self.assertIs(parameter.default, parameter.empty)

    def test_walk_best_is_a_generator(self):
        self.assertTrue(inspect.isgeneratorfunction(ranges.walk_best))

    def test_errors_are_defined_in_their_module(self):
        for name, value in vars(errors).items():
            if isinstance(value, type):
                self.assertEqual(value.__module__, "groupcaps.errors")

    def test_package(self):
        self.assertEqual(groupcaps.__name__, "groupcaps")


if __name__ == "__main__":
    unittest.main()
