"""Who wins, and by which taking (points 1 and 3)."""

import unittest

from tests.helpers import AtOnce, great_pairs, lost_by_trial, pairs_in_turn, takings_of
from twoheaps.answers import Lost, Won
from twoheaps.takings import can, left
from twoheaps.telling import told

GREAT_BOUNDS = (1, 2, 3, 10, 10 ** 41 + 7, 10 ** 250)


class Telling(unittest.TestCase):
    def lost(self, bound, heaps, number):
        answer = told(bound, heaps)
        self.assertIs(answer.__class__, Lost)
        self.assertEqual(answer.number, number)
        self.assertIs(answer.number.__class__, int)
        self.assertIs(answer.shows(bound, heaps), True)

    def won(self, bound, heaps):
        """The heaps are told as won; what the taking leaves is told as lost."""
        answer = told(bound, heaps)
        self.assertIs(answer.__class__, Won, (bound, heaps))
        self.assertIs(answer.taking.__class__, tuple)
        self.assertIs(can(bound, heaps, answer.taking), True)
        self.assertIs(answer.shows(bound, heaps), True)
        behind = left(bound, heaps, answer.taking)
        self.assertIs(told(bound, behind).__class__, Lost)
        return behind

    def test_all_small_ones(self):
        for bound in (1, 2, 3, 4, 5, 8, 30):
            known = lost_by_trial(bound, 25)
            numbers = {pair: n for n, pair in enumerate(pairs_in_turn(bound, 30))}
            for one in range(26):
                for other in range(26):
                    if (one, other) in known:
                        number = numbers[(min(one, other), max(one, other))]
                        self.lost(bound, (one, other), number)
                    else:
                        self.assertIn(self.won(bound, (one, other)), known)

    def test_small_ones(self):
        self.lost(1, (0, 0), 0)
        self.lost(10 ** 99, (0, 0), 0)
        self.lost(1, (1, 2), 1)
        self.lost(1, (2, 1), 1)
        self.lost(2, (1, 3), 1)
        self.lost(2, (3, 1), 1)
        self.assertEqual(told(1, (0, 9)).taking, (0, 9))
        self.assertEqual(told(1, (9, 0)).taking, (9, 0))
        self.assertEqual(told(10 ** 50, (3, 5)).taking, (3, 5))
        self.assertEqual(told(1, (1, 1)).taking, (1, 1))

    def test_no_taking_from_lost_to_lost(self):
        for bound in (1, 2, 3, 7):
            for pair in pairs_in_turn(bound, 8):
                for heaps in (pair, pair[::-1]):
                    for taking in takings_of(bound, heaps):
                        behind = left(bound, heaps, taking)
                        self.assertIs(told(bound, behind).__class__, Won)

    def test_great_ones(self):
        with AtOnce():
            for bound in GREAT_BOUNDS:
                for number, pair in great_pairs(bound, 300)[::7]:
                    self.beside(bound, number, pair)

    def beside(self, bound, number, pair):
        """A lost pair, and heaps from which or to which a small taking leads, in either turn."""
        for one in range(-2, 3):
            for other in range(-2, 3):
                heaps = (pair[0] + one, pair[1] + other)
                if (one, other) == (0, 0):
                    self.lost(bound, heaps, number)
                    self.lost(bound, heaps[::-1], number)
                elif min(heaps) >= 0 and self.is_let(bound, one, other):
                    self.won(bound, heaps)
                    self.won(bound, heaps[::-1])

    def is_let(self, bound, one, other):
        """Whether a taking is so much, there or back: then not both heaps can be lost."""
        if one == 0 or other == 0:
            return True
        return (one > 0) == (other > 0) and abs(one - other) < bound

    def test_great_heaps_of_all_forms(self):
        high = 10 ** 400 + 3
        with AtOnce():
            for bound in GREAT_BOUNDS + (10 ** 900,):
                for one in (high, high // 7, high * high):
                    self.won(bound, (one, one))
                    self.won(bound, (0, one))
                    self.won(bound, (one, 0))
                    self.either(bound, (1, one))
                    self.either(bound, (one, 2))
                    self.either(bound, (one, one + 1))
                    self.either(bound, (one * 8 // 5, one))
                    self.either(bound, (one, one * 9 // 4))
                    self.either(bound, (one * bound, one))

    def either(self, bound, heaps):
        """Great heaps of which it isn't known how they are told."""
        answer = told(bound, heaps)
        self.assertIs(answer.shows(bound, heaps), True)
        if isinstance(answer, Won):
            self.won(bound, heaps)
        else:
            self.lost(bound, heaps, answer.number)

    def test_nothing_is_changed(self):
        heaps = (10, 30)
        told(3, heaps)
        self.assertEqual(heaps, (10, 30))


if __name__ == "__main__":
    unittest.main()
