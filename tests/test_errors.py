"""The refusals: their classes, each door's refusals, and two of them at once (points 1 and 2)."""

import unittest

from tests.helpers import GREAT, NO_BOUNDS, NO_HEAPS, NO_NUMBERS, NO_PAIRS
from twoheaps.errors import BadBound, BadHeaps, BadNumber, BadTaking, HeapError
from twoheaps.pairs import pair_by, pair_with
from twoheaps.takings import can, left
from twoheaps.telling import told

BELOW_0 = [-1, -2, -10 ** 40, -GREAT]


class Refusals(unittest.TestCase):
    def refused(self, kind, door, *handed):
        """The refusal is of just the class that is named."""
        with self.assertRaises(HeapError) as caught:
            door(*handed)
        self.assertIs(caught.exception.__class__, kind)

    def test_classes(self):
        self.assertEqual(HeapError.__bases__, (ValueError,))
        for kind in (BadBound, BadHeaps, BadTaking, BadNumber):
            self.assertEqual(kind.__bases__, (HeapError,))
            self.assertEqual(kind.__module__, "twoheaps.errors")

    def test_no_bound(self):
        for bound in NO_BOUNDS:
            self.refused(BadBound, can, bound, (1, 2), (1, 1))
            self.refused(BadBound, left, bound, (1, 2), (1, 1))
            self.refused(BadBound, told, bound, (1, 2))
            self.refused(BadBound, pair_by, bound, 3)
            self.refused(BadBound, pair_with, bound, 3)

    def test_no_heaps(self):
        for bound in (1, 2, 10 ** 50):
            for heaps in NO_HEAPS:
                self.refused(BadHeaps, can, bound, heaps, (1, 1))
                self.refused(BadHeaps, left, bound, heaps, (1, 1))
                self.refused(BadHeaps, told, bound, heaps)

    def test_no_taking(self):
        for bound in (1, 3, 10 ** 50):
            for heaps in ((0, 0), (1, 2), (5, 5), (10 ** 40, 10 ** 45)):
                for taking in NO_PAIRS:
                    self.refused(BadTaking, can, bound, heaps, taking)
                    self.refused(BadTaking, left, bound, heaps, taking)

    def test_no_number(self):
        for bound in (1, 2, 10 ** 50):
            for number in NO_NUMBERS + BELOW_0:
                self.refused(BadNumber, pair_by, bound, number)
            for number in NO_NUMBERS + BELOW_0 + [0]:
                self.refused(BadNumber, pair_with, bound, number)

    def test_bound_ahead_of_all(self):
        for bound in (0, -1, True, None, "1"):
            for heaps in ((-1, 2), [1, 2], True, None):
                self.refused(BadBound, told, bound, heaps)
                for taking in ((1, 1), None, (0, 0)):
                    self.refused(BadBound, can, bound, heaps, taking)
                    self.refused(BadBound, left, bound, heaps, taking)
            for taking in (None, [1, 1], (True, 0), (0, 0), (9, 9)):
                self.refused(BadBound, can, bound, (1, 2), taking)
                self.refused(BadBound, left, bound, (1, 2), taking)
            for number in (-1, False, None, "1", (1, 2)):
                self.refused(BadBound, pair_by, bound, number)
                self.refused(BadBound, pair_with, bound, number)
            self.refused(BadBound, pair_with, bound, 0)

    def test_heaps_ahead_of_taking(self):
        for heaps in ((-1, 2), [1, 2], True, None, (1, 2, 3)):
            for taking in (None, [1, 1], (True, 0), (0, 0), (9, 9), (-1, 0)):
                self.refused(BadHeaps, can, 2, heaps, taking)
                self.refused(BadHeaps, left, 2, heaps, taking)

    def test_what_is_refused_stays(self):
        rows = [1, 2]
        self.refused(BadHeaps, told, 1, rows)
        self.refused(BadBound, told, rows, (1, 2))
        for door in (pair_by, pair_with):
            self.refused(BadNumber, door, 1, rows)
            self.refused(BadBound, door, rows, 1)
        for door in (can, left):
            self.refused(BadHeaps, door, 1, rows, rows)
            self.refused(BadTaking, door, 1, (1, 2), rows)
        self.assertEqual(rows, [1, 2])


if __name__ == "__main__":
    unittest.main()
