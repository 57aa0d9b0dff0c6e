"""Points [1] and [2]: the first gap of a set."""

import unittest
from itertools import combinations_with_replacement

from given import gap_by_trying, small_sets
from weightset.sets import first_gap


class FirstGap(unittest.TestCase):
    def test_of_no_weights(self):
        self.assertEqual(first_gap([]), 1)

    def test_of_one_weight(self):
        self.assertEqual(first_gap([1]), 2)
        self.assertEqual(first_gap([2]), 1)
        self.assertEqual(first_gap([10**60]), 1)

    def test_of_alike_weights(self):
        self.assertEqual(first_gap([1, 1]), 3)
        self.assertEqual(first_gap([2, 2]), 1)
        self.assertEqual(first_gap([1, 2, 2, 2]), 8)
        self.assertEqual(first_gap([3, 3, 1, 1]), 9)

    def test_a_weight_that_is_the_gap_closes_it(self):
        self.assertEqual(first_gap([1, 2, 4]), 8)
        self.assertEqual(first_gap([1, 2, 4, 8]), 16)

    def test_a_weight_one_more_than_the_gap_leaves_it(self):
        self.assertEqual(first_gap([1, 2, 4, 9]), 8)
        self.assertEqual(first_gap([1, 3]), 2)

    def test_what_follows_the_gap_does_not_close_it(self):
        self.assertEqual(first_gap([1, 3, 4, 5, 6]), 2)
        self.assertEqual(first_gap([2, 4, 20, 1, 30]), 8)

    def test_of_any_order(self):
        self.assertEqual(first_gap([4, 2, 1]), 8)
        self.assertEqual(first_gap([9, 1, 4, 2]), 8)

    def test_small_sets_by_trying_all(self):
        for weights in small_sets():
            self.assertEqual(first_gap(weights), gap_by_trying(weights), weights)

    def test_somewhat_larger_sets_by_trying_all(self):
        for weights in combinations_with_replacement(range(1, 10), 6):
            turned = list(reversed(weights))
            self.assertEqual(first_gap(turned), gap_by_trying(turned), turned)

    def test_of_many_weights(self):
        self.assertEqual(first_gap([1] * 1000), 1001)
        self.assertEqual(first_gap(list(range(200, 0, -1))), 20101)
        self.assertEqual(first_gap(list(range(2, 200))), 1)
        self.assertEqual(first_gap([1] * 150 + [152] * 150), 151)
        self.assertEqual(first_gap([1] * 150 + [151] * 150), 151 * 151)

    def test_of_very_many_weights(self):
        self.assertEqual(first_gap(list(range(20000, 0, -1))), 20000 * 20001 // 2 + 1)

    def test_of_weights_of_sixty_figures(self):
        doubling = [2**k for k in range(200)]
        self.assertEqual(len(str(doubling[-1])), 60)
        self.assertEqual(first_gap(doubling), 2**200)
        # One more or less decides, sixty figures from the front.
        self.assertEqual(first_gap(doubling + [2**200]), 2**201)
        self.assertEqual(first_gap(doubling + [2**200 + 1]), 2**200)
        self.assertEqual(first_gap([10**59 + 1, 10**59]), 1)
        tens = [10**k for k in range(60)] * 9
        self.assertEqual(first_gap(tens), 10**60)

    def test_is_a_whole_number(self):
        for weights in ([], [1], [5, 1, 1]):
            self.assertIs(type(first_gap(weights)), int)


if __name__ == "__main__":
    unittest.main()
