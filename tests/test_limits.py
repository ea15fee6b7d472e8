"""[4]: the limits."""

import unittest

from groupcaps import limits


class LimitsTest(unittest.TestCase):
    def test_values(self):
        expected = {
            "MAX_ITEMS": 6,
            "MAX_STEPS": 5,
            "MAX_GROUPS": 8,
            "LIMIT": 1000000000000,
            "MAX_GAIN": 1000000,
            "LISTED": 1000,
            "MAX_OPERATIONS": 60,
            "MAX_BATCH": 20,
            "LOG_SIZE": 100,
        }
        for name, value in expected.items():
            with self.subTest(name=name):
                self.assertEqual(getattr(limits, name), value)
                self.assertIs(type(getattr(limits, name)), int)


if __name__ == "__main__":
    unittest.main()
