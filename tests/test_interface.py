"""[2], [76]: each name stands in its module, with its arguments, and each method in its class."""

import inspect
import unittest

import groupcaps
from groupcaps import best, changes, consoles, errors, even, evidence, ranges, sessions, systems, texts, totals

FUNCTIONS = {
    systems: {
        "is_system": ["value"],
        "system_error": ["value"],
        "capacity_of": ["system", "item"],
        "gain_of_units": ["system", "item", "units"],
        "is_plan": ["system", "value"],
        "fits": ["system", "value"],
        "broken_groups": ["system", "plan"],
        "gain_of": ["system", "plan"],
    },
    totals: {
        "totals_of": ["system"],
        "low_bound": ["system", "value"],
        "high_bound": ["system", "value"],
        "find_reasons": ["system"],
        "is_contradiction": ["system", "value"],
        "certificate": ["system"],
        "is_certificate": ["system", "value"],
    },
    best: {
        "greatest_gain": ["system"],
        "best_plan": ["system"],
        "gain_at": ["system", "total"],
        "plan_at": ["system", "total"],
        "gain_steps": ["system"],
    },
    evidence: {
        "price_bound": ["system", "value"],
        "after_exchange": ["system", "plan", "exchange"],
        "is_gaining": ["system", "plan", "value"],
        "judge": ["system", "plan"],
        "is_judgement": ["system", "plan", "value"],
        "best_prices": ["system"],
    },
    ranges: {
        "unit_range": ["system", "item"],
        "next_best": ["system", "plan"],
        "walk_best": ["system"],
        "count_best": ["system"],
        "distance": ["one", "other"],
        "way_between": ["system", "first", "last"],
        "is_way": ["system", "first", "last", "value"],
    },
    even: {
        "is_as_even": ["one", "other"],
        "even_plan": ["system", "total"],
        "evening_move": ["system", "plan"],
    },
    changes: {
        "with_gains": ["system", "item", "gains"],
        "with_group": ["system", "group"],
        "without_group": ["system", "number"],
        "idle_groups": ["system"],
        "worth_of": ["system", "number"],
    },
    texts: {
        "format_system": ["system"],
        "parse_system": ["value"],
        "format_plan": ["plan"],
        "parse_plan": ["value"],
    },
}

CLASSES = {
    sessions.Session: {
        "__init__": "(self, data, *, limit=60)",
        "set_gains": "(self, item, gains)",
        "set_limits": "(self, number, least, most)",
        "add_group": "(self, group)",
        "remove_group": "(self, number)",
        "add_item": "(self, gains)",
        "undo": "(self)",
        "apply_all": "(self, operations)",
        "log": "(self)",
        "data": "(self, *, at=None)",
        "totals": "(self, *, at=None)",
        "best": "(self, *, at=None)",
        "clone": "(self)",
        "preview": "(self, operations)",
        "choose": "(self, value)",
        "__len__": "(self)",
        "__str__": "(self)",
        "__eq__": "(self, other)",
    },
    sessions.GuardedSession: {"__init__": "(self, data, *, limit=60)"},
    consoles.Console: {"__init__": "(self, session)", "execute": "(self, line)", "history": "(self)"},
}


class InterfaceTest(unittest.TestCase):
    def test_functions(self):
        for module, functions in FUNCTIONS.items():
            for name, arguments in functions.items():
                with self.subTest(name=name):
                    function = getattr(module, name)
                    self.assertTrue(inspect.isfunction(function))
                    self.assertEqual(function.__module__, module.__name__)
                    parameters = inspect.signature(function).parameters.values()
                    self.assertEqual([parameter.name for parameter in parameters], arguments)
                    for parameter in parameters:
                        self.assertEqual(parameter.kind, parameter.POSITIONAL_OR_KEYWORD)
                        self.assertIs(parameter.default, parameter.empty)

    def test_joined(self):
        self.assertEqual(changes.joined.__module__, "groupcaps.changes")
        self.assertEqual(str(inspect.signature(changes.joined)), "(*systems)")

    def test_methods_stand_in_their_class(self):
        for held, methods in CLASSES.items():
            for name, signature in methods.items():
                with self.subTest(held=held.__name__, name=name):
                    method = vars(held)[name]
                    self.assertTrue(inspect.isfunction(method))
                    self.assertEqual(str(inspect.signature(method)), signature)

    def test_other_parts_of_sessions(self):
        held = vars(sessions.Session)
        self.assertIsInstance(held["from_text"], classmethod)
        self.assertEqual(str(inspect.signature(sessions.Session.from_text)), "(value)")
        self.assertIsInstance(held["operation_names"], staticmethod)
        self.assertEqual(str(inspect.signature(sessions.Session.operation_names)), "()")
        self.assertIsInstance(held["gain"], property)
        self.assertIsInstance(held["plan"], property)
        self.assertEqual(held["LIMIT"], 60)

    def test_classes_are_defined_in_their_module(self):
        for held, module in (
            (sessions.Session, "groupcaps.sessions"),
            (sessions.GuardedSession, "groupcaps.sessions"),
            (consoles.Console, "groupcaps.consoles"),
        ):
            self.assertEqual(held.__module__, module)

    def test_walk_best_is_a_generator(self):
        self.assertTrue(inspect.isgeneratorfunction(ranges.walk_best))

    def test_errors_are_defined_in_their_module(self):
        for name, value in vars(errors).items():
            if isinstance(value, type):
                self.assertEqual(value.__module__, "groupcaps.errors")

    def test_package(self):
        self.assertEqual(groupcaps.__name__, "groupcaps")


if __name__ == "__main__":
    unittest.main()
