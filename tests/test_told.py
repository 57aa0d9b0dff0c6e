"""Point [3]: whether all numbers up to one can be weighed, or which one plainly can't."""

import unittest

from given import DOUBLING, GOOD, LARGE_SETS, SIXTY_FIGURES, gap_by_trying, is_gap, small_sets, sums_of
from weightset.answers import All, Answer, Best, Gap
from weightset.sets import first_gap
from weightset.telling import told


class Told(unittest.TestCase):
    def all_of(self, weights, most):
        """An All is told, and nothing else."""
        answer = told(weights, most)
        self.assertIs(type(answer), All, (weights, most))
        self.assertIsInstance(answer, Answer)
        self.assertNotIsInstance(answer, (Gap, Best))
        self.assertIs(answer.shows(weights, most), True)

    def gap_in(self, weights, most):
        """A Gap is told, and nothing else, with a number that is as point [3] says."""
        answer = told(weights, most)
        self.assertIs(type(answer), Gap, (weights, most))
        self.assertIsInstance(answer, Answer)
        self.assertNotIsInstance(answer, (All, Best))
        self.assertIs(type(answer.number), int)
        self.assertTrue(is_gap(answer.number, weights, most), (weights, most, answer.number))
        self.assertIs(answer.shows(weights, most), True)
        return answer.number

    def check_around(self, weights, gap):
        for most in {0, gap // 2, gap - 1}:
            self.all_of(weights, most)
        for most in (gap, gap + 1, gap + 2, 10 * gap, 10**61):
            self.gap_in(weights, most)

    def test_zero_can_always_be_weighed(self):
        for weights in ([], [1], [7], [10**60], GOOD):
            self.all_of(weights, 0)

    def test_of_no_weights(self):
        self.all_of([], 0)
        for most in (1, 2, 7, SIXTY_FIGURES):
            self.assertEqual(self.gap_in([], most), 1)

    def test_of_one_weight(self):
        self.all_of([1], 1)
        self.assertEqual(self.gap_in([1], 2), 2)
        self.assertEqual(self.gap_in([2], 1), 1)
        self.assertEqual(self.gap_in([10**60], 1), 1)

    def test_where_only_one_number_is_left(self):
        self.assertEqual(self.gap_in(GOOD, 8), 8)
        self.assertEqual(self.gap_in([1, 1, 1], 4), 4)
        self.assertEqual(self.gap_in([1, 3], 2), 2)

    def test_a_number_that_can_be_weighed_beyond_the_gap(self):
        self.gap_in([2], 2)
        self.gap_in(GOOD, 20)
        self.gap_in(GOOD, sum(GOOD))

    def test_alike_weights_and_any_order(self):
        for weights in ([1, 1], [2, 2, 1], [1, 2, 2, 2], [3, 1, 3, 1], [9, 1, 4, 2], [5, 5, 1]):
            self.check_around(weights, gap_by_trying(weights))

    def test_small_sets_by_trying_all(self):
        for weights in small_sets():
            sums = sums_of(weights)
            for most in range(14):
                if all(number in sums for number in range(most + 1)):
                    self.all_of(weights, most)
                else:
                    self.assertNotIn(self.gap_in(weights, most), sums)

    def test_many_weights_and_sixty_figures(self):
        for weights in LARGE_SETS:
            self.check_around(weights, first_gap(weights))

    def test_a_number_of_sixty_figures(self):
        self.all_of(DOUBLING, SIXTY_FIGURES)
        self.all_of(DOUBLING, 2**200 - 1)
        self.assertEqual(self.gap_in(DOUBLING, 2**200), 2**200)
        self.gap_in([SIXTY_FIGURES, 1], SIXTY_FIGURES)
        self.gap_in([1] * 150, SIXTY_FIGURES)

    def test_very_many_weights(self):
        weights = list(range(20000, 0, -1))
        self.check_around(weights, 20000 * 20001 // 2 + 1)

    def test_what_is_told_is_new(self):
        first = told([1], 5)
        first.number = 77
        self.assertEqual(told([1], 5).number, 2)
        self.assertIsNot(told([1], 1), told([1], 1))

    def test_a_changed_list_is_another_set(self):
        weights = [1, 2]
        self.assertEqual(self.gap_in(weights, 6), 4)
        weights.append(3)
        self.all_of(weights, 6)


if __name__ == "__main__":
    unittest.main()
