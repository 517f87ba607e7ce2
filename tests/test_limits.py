"""[3]: the limits."""

import unittest

from heapfriends import limits


class Limits(unittest.TestCase):
    def test_as_told(self):
        told = (limits.MOST_RINGS, limits.MOST_KNOT, limits.MOST_LED, limits.MOST_GOINGS)
        self.assertEqual(told, (300, 6, 800, 8))
        for limit in told:
            self.assertIs(type(limit), int)


if __name__ == "__main__":
    unittest.main()
