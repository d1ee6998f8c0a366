"""Of promise [1] what is an integer within bounds: slipleaf/bounds.py."""

import unittest

from slipleaf.bounds import is_ascending, is_span, is_within
from tests.helper import ODD_THINGS, deep


class Bounds(unittest.TestCase):
    def test_is_within(self):
        self.assertEqual([number for number in range(-9, 9) if is_within(number, -2, 3)], [-2, -1, 0, 1, 2, 3])
        self.assertIs(is_within(10 ** 29, 0, 10 ** 29), True)
        for thing in (*ODD_THINGS, deep(130)):
            self.assertIs(is_within(thing, -9, 9), False)

    def test_is_span(self):
        for low, high, wanted in (
            (0, 0, True), (0, 9, True), (9, 9, True), (5, 4, False), (-1, 4, False), (4, 10, False), (10, 10, False),
            (False, 4, False), (0, True, False), (None, 3, False), (3, None, False),
        ):
            self.assertIs(is_span(low, high, 9), wanted)

    def test_is_ascending(self):
        for thing in ((), (0,), (9,), (0, 1, 9), tuple(range(10))):
            self.assertIs(is_ascending(thing, 0, 9), True)
        for thing in (
            [0, 1], (1, 1), (1, 0), (0, 2, 1), (-1,), (10,), (0, True), (False, 1), "01", (None,), (0, (1,)), None, 0,
        ):
            self.assertIs(is_ascending(thing, 0, 9), False)


if __name__ == "__main__":
    unittest.main()
