"""What is a taking, and what it leaves (point 1)."""

import unittest

from tests.helpers import AtOnce, takings_of
from twoheaps.errors import BadTaking
from twoheaps.takings import can, left


class Takings(unittest.TestCase):
    def test_all_small_ones(self):
        for bound in (1, 2, 3, 4, 9):
            for heaps in ((0, 0), (0, 4), (4, 0), (3, 3), (2, 6), (6, 5), (1, 1)):
                known = takings_of(bound, heaps)
                for one in range(-2, 9):
                    for other in range(-2, 9):
                        self.check(bound, heaps, (one, other), (one, other) in known)

    def check(self, bound, heaps, taking, known):
        self.assertIs(can(bound, heaps, taking), known, (bound, heaps, taking))
        if known:
            behind = (heaps[0] - taking[0], heaps[1] - taking[1])
            found = left(bound, heaps, taking)
            self.assertIs(found.__class__, tuple)
            self.assertEqual(found, behind)
        else:
            with self.assertRaises(BadTaking):
                left(bound, heaps, taking)

    def test_told_ones(self):
        self.check(1, (3, 5), (2, 2), True)
        self.check(1, (3, 5), (2, 3), False)
        self.check(2, (3, 5), (2, 3), True)
        self.check(2, (3, 5), (3, 2), True)
        self.check(2, (3, 5), (3, 1), False)
        self.check(3, (3, 5), (3, 1), True)
        self.check(1, (3, 5), (0, 5), True)
        self.check(1, (3, 5), (3, 0), True)
        self.check(1, (3, 5), (0, 0), False)
        self.check(1, (3, 5), (0, 6), False)
        self.check(1, (3, 5), (4, 0), False)
        self.check(1, (3, 5), (4, 4), False)
        self.check(1, (3, 5), (-1, 0), False)
        self.check(1, (3, 5), (0, -1), False)
        self.check(1, (3, 5), (-1, -1), False)
        self.check(10 ** 9, (3, 5), (-1, 1), False)
        self.check(10 ** 9, (3, 5), (3, 5), True)

    def test_empty_heaps(self):
        for bound in (1, 2, 10 ** 300):
            for taking in ((0, 0), (0, 1), (1, 0), (1, 1), (-1, 0), (0, -1)):
                self.check(bound, (0, 0), taking, False)

    def test_great(self):
        high = 10 ** 400
        with AtOnce():
            self.check(1, (high, high + 7), (high, high), True)
            self.check(1, (high, high + 7), (high, high + 1), False)
            self.check(1, (high, high + 7), (0, high + 7), True)
            self.check(1, (high, high + 7), (0, high + 8), False)
            self.check(1, (high, high + 7), (high, 0), True)
            self.check(1, (high, high + 7), (high + 1, 0), False)
            self.check(high, (high, 2 * high), (1, high), True)
            self.check(high, (high, 2 * high), (1, high + 1), False)
            self.check(high, (2 * high, high), (high, 1), True)
            self.check(high, (2 * high, high), (high + 1, 1), False)


if __name__ == "__main__":
    unittest.main()
