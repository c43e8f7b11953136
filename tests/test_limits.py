import unittest

from widthmix import limits


class LimitsTest(unittest.TestCase):
    """Point 4."""

    def test_values(self):
        wanted = {
            "MAX_OUTLETS": 6,
            "MAX_INLETS": 6,
            "TOP": 1000000000000,
            "MAX_PRICE": 1000000,
            "MAX_EXPONENT": 1000000000000000000,
            "MAX_OPERATIONS": 60,
            "MAX_BATCH": 20,
            "LOG_SIZE": 100,
        }
        found = {name: vars(limits)[name] for name in dir(limits) if name.isupper()}
        self.assertEqual(found, wanted)
        for name, value in found.items():
            self.assertIs(type(value), int, name)


if __name__ == "__main__":
    unittest.main()
