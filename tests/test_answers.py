"""Answers, told or made by hand, and what they show (point 3)."""

import unittest

from tests.helpers import AtOnce, great_pairs, lost_by_trial, pairs_in_turn, takings_of
from twoheaps.answers import Answer, Lost, Won
from twoheaps.pairs import pair_by
from twoheaps.telling import told

HIGH = 10 ** 300


class Answers(unittest.TestCase):
    def test_classes(self):
        for kind in (Lost, Won):
            self.assertEqual(kind.__bases__, (Answer,))
            self.assertIn("shows", vars(kind))
        self.assertEqual(vars(Lost(3)), {"number": 3})
        self.assertEqual(vars(Won((1, 2))), {"taking": (1, 2)})
        self.assertEqual(Lost(number=4).number, 4)
        self.assertEqual(Won(taking=(0, 1)).taking, (0, 1))

    def test_all_small_numbers(self):
        for bound in (1, 2, 3, 11):
            pairs = pairs_in_turn(bound, 16)
            for one in range(14):
                for other in range(14):
                    for number in range(-3, 16):
                        ordered = (min(one, other), max(one, other))
                        known = number >= 0 and pairs[number] == ordered
                        self.assertIs(Lost(number).shows(bound, (one, other)), known)

    def test_all_small_takings(self):
        for bound in (1, 2, 3, 11):
            lost = lost_by_trial(bound, 10)
            for one in range(11):
                for other in range(11):
                    self.takings(bound, (one, other), lost)

    def takings(self, bound, heaps, lost):
        let = takings_of(bound, heaps)
        for x in range(-3, 13):
            for y in range(-3, 13):
                known = (x, y) in let and (heaps[0] - x, heaps[1] - y) in lost
                self.assertIs(Won((x, y)).shows(bound, heaps), known, (bound, heaps, (x, y)))

    def test_told_elsewhere(self):
        """Of other heaps and other bounds an answer shows what is told of them."""
        for bound in (1, 2, 5):
            lost = {b: lost_by_trial(b, 9) for b in (1, 2, 5)}
            for heaps in ((1, 2), (2, 6), (4, 4), (9, 3), (0, 0), (1, 6)):
                answer = told(bound, heaps)
                self.assertIs(answer.shows(bound, heaps), True)
                if isinstance(answer, Lost):
                    for other in (1, 2, 5):
                        self.assertIs(answer.shows(other, heaps), heaps in lost[other])
                    self.assertIs(answer.shows(bound, (heaps[0], heaps[1] + 1)), False)
                else:
                    for other in (1, 2, 5):
                        self.takings(other, heaps, lost[other])

    def test_wrong_numbers(self):
        with AtOnce():
            for bound in (1, 2, 10 ** 77):
                for number, pair in great_pairs(bound, 250)[::9]:
                    for heaps in (pair, pair[::-1]):
                        self.assertIs(Lost(number).shows(bound, heaps), True)
                        self.assertIs(Won((0, 0)).shows(bound, heaps), False)
                        for wrong in (number + 1, number - 1, -number, pair[1], HIGH, -HIGH):
                            known = wrong == number
                            self.assertIs(Lost(wrong).shows(bound, heaps), known)

    def test_wrong_bounds_and_heaps(self):
        lesser, other = pair_by(3, HIGH)
        answer = Lost(HIGH)
        self.assertIs(answer.shows(3, (lesser, other)), True)
        self.assertIs(answer.shows(2, (lesser, other)), False)
        self.assertIs(answer.shows(4, (lesser, other)), False)
        self.assertIs(answer.shows(3, (lesser + 1, other)), False)
        self.assertIs(answer.shows(3, (lesser, other - 1)), False)
        self.assertIs(answer.shows(3, (lesser + 1, other + 1)), False)
        self.assertIs(answer.shows(3, (0, other)), False)
        self.assertIs(answer.shows(3, (lesser, lesser)), False)

    def test_wrong_takings(self):
        lesser, other = pair_by(3, HIGH)
        both = (lesser + 50, other + 52)
        self.assertIs(Won((50, 52)).shows(3, both), True)
        self.assertIs(Won((50, 52)).shows(2, both), False)
        for taking in ((52, 50), (50, 51), (51, 52), (51, 53), (49, 51), (-50, -52),
                       (50, -52), (0, 0), both, (HIGH ** 2, HIGH ** 2), (both[0] + 1, 0)):
            self.assertIs(Won(taking).shows(3, both), False, taking)
        self.assertIs(Won((52, 50)).shows(3, both[::-1]), True)
        one = (lesser, other + HIGH)
        self.assertIs(Won((0, HIGH)).shows(3, one), True)
        for taking in ((HIGH, 0), (0, HIGH + 1), (0, HIGH - 1), (0, -HIGH), (1, HIGH)):
            self.assertIs(Won(taking).shows(3, one), False, taking)

    def test_negative_takings_lead_nowhere(self):
        """A lost pair that is no less than the heaps can't be left of them."""
        self.assertIs(Won((-1, 0)).shows(1, (0, 2)), False)
        self.assertIs(Won((0, -1)).shows(1, (1, 1)), False)
        self.assertIs(Won((-1, -1)).shows(1, (0, 1)), False)
        self.assertIs(Won((0, 0)).shows(1, (1, 2)), False)
        self.assertIs(Won((0, 0)).shows(1, (0, 0)), False)

    def test_too_far_apart(self):
        self.assertIs(Won((3, 5)).shows(2, (3, 5)), False)
        self.assertIs(Won((3, 5)).shows(3, (3, 5)), True)
        self.assertIs(Won((5, 3)).shows(2, (5, 3)), False)
        self.assertIs(Won((5, 3)).shows(3, (5, 3)), True)

    def test_fields_as_they_stand(self):
        answer = told(1, (3, 5))
        answer.number = 3
        self.assertIs(answer.shows(1, (3, 5)), False)
        self.assertIs(answer.shows(1, (7, 4)), True)
        answer.number = 2
        self.assertIs(answer.shows(1, (3, 5)), True)
        taken = told(1, (4, 4))
        taken.taking = (1, 0)
        self.assertIs(taken.shows(1, (4, 4)), False)
        taken.taking = (3, 2)
        self.assertIs(taken.shows(2, (4, 5)), True)
        self.assertIs(taken.shows(1, (4, 5)), False)

    def test_what_is_no_number_shows_nothing(self):
        self.assertIs(Lost(1).shows(1, (1, 2)), True)
        for number in (True, 1.0, "1", None, (1, 2), [1]):
            self.assertIs(Lost(number).shows(1, (1, 2)), False)
        self.assertIs(Lost(0).shows(1, (0, 0)), True)
        self.assertIs(Lost(False).shows(1, (0, 0)), False)
        self.assertIs(Won((1, 1)).shows(1, (1, 1)), True)
        for taking in ((True, 1), (1, True), [1, 1], (1, 1, 1), (1,), (), None, 1):
            self.assertIs(Won(taking).shows(1, (1, 1)), False)

    def test_what_are_no_heaps_is_not_shown(self):
        for bound in (0, -1, True, None):
            self.assertIs(Lost(0).shows(bound, (0, 0)), False)
            self.assertIs(Won((1, 1)).shows(bound, (1, 1)), False)
        for heaps in ((-1, -2), (-1, 0), (False, False), [0, 0], (0,), (0, 0, 0), None):
            for number in (-1, 0, 1):
                self.assertIs(Lost(number).shows(1, heaps), False)
            for taking in ((-1, -2), (-1, 0), (0, 0)):
                self.assertIs(Won(taking).shows(1, heaps), False)


if __name__ == "__main__":
    unittest.main()
