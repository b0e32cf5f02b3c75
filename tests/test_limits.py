"""The values that the interface lists for ringleast/limits.py."""

import unittest

from ringleast import limits

VALUES = {
    "MAX_RANK": 4, "MAX_WORD": 100, "MAX_TOTAL": 400, "MAX_RINGS": 4, "MAX_LENGTH": 60,
    "MAX_LEVEL_RANK": 3, "MAX_LEVEL_LENGTH": 24, "MAX_LEVEL": 40,
    "MAX_CENSUS_TWO": 6, "MAX_CENSUS_THREE": 5,
}


class Limits(unittest.TestCase):
    def test_values(self):
        for name, number in VALUES.items():
            self.assertIs(type(getattr(limits, name)), int, name)
            self.assertEqual(getattr(limits, name), number, name)


if __name__ == "__main__":
    unittest.main()
