"""[75]: the exceptions, their bases and their attributes."""

import unittest

from groupcaps import errors

ATTRIBUTES = {
    "NoItem": ("item",),
    "NoUnits": ("units",),
    "NoPlan": (),
    "NoFit": ("contradiction",),
    "NoTotal": ("total",),
    "NoExchange": (),
    "TooMany": ("limit",),
    "NoGains": (),
    "NoGroup": (),
    "NoNumber": ("number",),
    "NoLimits": (),
    "BadSystem": ("error",),
    "NothingToUndo": (),
    "NoMoment": ("at",),
    "NoOperations": (),
    "Failed": ("index",),
    "Blocked": ("contradiction",),
    "BadText": ("line",),
}

VALUES = (None, True, 0, -5, 10 ** 99, "", "text", [1, [2]], {"a": (1,)}, (), ((0,), ((), (0, 1))), ("group", 0))


class ErrorsTest(unittest.TestCase):
    def test_base(self):
        self.assertTrue(issubclass(errors.CapError, ValueError))
        self.assertIsNot(errors.CapError, ValueError)

    def test_all_are_direct_subclasses(self):
        for name in ATTRIBUTES:
            with self.subTest(name=name):
                self.assertEqual(getattr(errors, name).__bases__, (errors.CapError,))

    def test_no_other_classes(self):
        found = [name for name, value in vars(errors).items() if isinstance(value, type)]
        self.assertEqual(sorted(found), sorted([*ATTRIBUTES, "CapError"]))

    def test_attributes_are_the_arguments(self):
        for name, attributes in ATTRIBUTES.items():
            for value in VALUES if attributes else ():
                with self.subTest(name=name, value=value):
                    error = getattr(errors, name)(value)
                    self.assertEqual(list(vars(error)), list(attributes))
                    self.assertIs(getattr(error, attributes[0]), value)
                    self.assertEqual(error.args, (value,))

    def test_errors_without_arguments(self):
        for name, attributes in ATTRIBUTES.items():
            if not attributes:
                with self.subTest(name=name):
                    error = getattr(errors, name)()
                    self.assertEqual(vars(error), {})
                    self.assertEqual(error.args, ())

    def test_argument_is_needed(self):
        for name, attributes in ATTRIBUTES.items():
            if attributes:
                with self.subTest(name=name):
                    self.assertRaises(TypeError, getattr(errors, name))
                    self.assertRaises(TypeError, getattr(errors, name), 1, 2)

    def test_argument_by_name(self):
        for name, attributes in ATTRIBUTES.items():
            if attributes:
                with self.subTest(name=name):
                    error = getattr(errors, name)(**{attributes[0]: 7})
                    self.assertEqual(getattr(error, attributes[0]), 7)

    def test_attributes_stay_when_raised(self):
        for name, attributes in ATTRIBUTES.items():
            with self.subTest(name=name):
                held = [1]
                with self.assertRaises(errors.CapError) as caught:
                    raise getattr(errors, name)(*[held for attribute in attributes])
                for attribute in attributes:
                    self.assertIs(getattr(caught.exception, attribute), held)

    def test_message_is_the_name_of_the_class(self):
        # Sessions and consoles tell of exceptions by it.
        for name, attributes in ATTRIBUTES.items():
            with self.subTest(name=name):
                self.assertEqual(str(getattr(errors, name)(*[0 for attribute in attributes])), name)


if __name__ == "__main__":
    unittest.main()
