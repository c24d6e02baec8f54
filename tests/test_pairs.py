"""The lost pairs and their numbers (point 2)."""

import unittest

from tests.helpers import AtOnce, great_pairs, lost_by_trial, pairs_in_turn
from twoheaps.pairs import pair_by, pair_with

BOUNDS = (1, 2, 3, 4, 5, 7, 10, 60, 1000)
GREAT_BOUNDS = BOUNDS + (10 ** 40 + 1, 10 ** 250, 3 ** 600)


class Pairs(unittest.TestCase):
    def check(self, bound, number, pair):
        found = pair_by(bound, number)
        self.assertIs(found.__class__, tuple)
        self.assertEqual(found, pair)
        if number:
            self.assertEqual([pair_with(bound, k) for k in pair], [number, number])

    def test_first_ones(self):
        told = {
            1: [(0, 0), (1, 2), (3, 5), (4, 7), (6, 10), (8, 13), (9, 15)],
            2: [(0, 0), (1, 3), (2, 6), (4, 10), (5, 13), (7, 17), (8, 20)],
            3: [(0, 0), (1, 4), (2, 8), (3, 12), (5, 17), (6, 21), (7, 25)],
            10 ** 60: [(0, 0), (1, 10 ** 60 + 1), (2, 2 * 10 ** 60 + 2)],
        }
        for bound, pairs in told.items():
            for number, pair in enumerate(pairs):
                self.check(bound, number, pair)

    def test_one_behind_the_other(self):
        for bound in BOUNDS:
            for number, pair in enumerate(pairs_in_turn(bound, 2500)):
                self.check(bound, number, pair)

    def test_each_number_in_just_one(self):
        for bound in BOUNDS:
            where = {}
            for number, pair in enumerate(pairs_in_turn(bound, 1200)):
                for k in pair:
                    where.setdefault(k, number)
            for k in range(1, 1200):
                self.assertEqual(pair_with(bound, k), where[k], (bound, k))

    def test_lost_by_trial(self):
        for bound in (1, 2, 3, 6):
            lost = lost_by_trial(bound, 22)
            ordered = sorted(pair for pair in lost if pair[0] <= pair[1])
            self.assertEqual(ordered, [pair_by(bound, n) for n in range(len(ordered))])

    def test_great_ones(self):
        with AtOnce():
            for bound in GREAT_BOUNDS:
                for number, pair in great_pairs(bound, 320):
                    self.check(bound, number, pair)

    def test_great_ones_in_turn(self):
        with AtOnce():
            for bound in GREAT_BOUNDS:
                for start in (10 ** 39, 7 ** 333, 10 ** 700 + 9):
                    self.in_turn(bound, start)

    def in_turn(self, bound, start):
        """Beside great numbers too: apart as told, each one in one pair, none left out."""
        pairs = [pair_by(bound, start + n) for n in range(12)]
        for n, (lesser, other) in enumerate(pairs):
            self.assertEqual(other - lesser, bound * (start + n))
        lessers = [pair[0] for pair in pairs]
        self.assertEqual(lessers, sorted(set(lessers)))
        for k in range(lessers[0], lessers[-1] + 1):
            number = pair_with(bound, k)
            pair = pair_by(bound, number)
            self.assertIn(k, pair)
            self.assertEqual(k in lessers, pair[0] == k)
            if k not in lessers:
                self.assertLess(number, start)

    def test_bound_greater_than_the_number(self):
        for bound in (10 ** 40, 10 ** 500):
            with AtOnce():
                for number in (1, 2, 3, 10 ** 39, bound - 1, bound):
                    self.check(bound, number, (number, number + bound * number))
                self.check(bound, bound + 1, (bound + 2, bound + 2 + bound * (bound + 1)))
                self.assertEqual(pair_with(bound, bound + 1), 1)

    def test_very_great(self):
        number = 10 ** 6000 + 1
        with AtOnce():
            for bound in (1, 2, 10 ** 5000):
                pair = pair_by(bound, number)
                self.assertTrue(pair_with(bound, pair[0]) == number)
                self.assertTrue(pair_with(bound, pair[1]) == number)


if __name__ == "__main__":
    unittest.main()
