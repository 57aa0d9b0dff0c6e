"""Points [1] and [4]: with which weights a number can be weighed."""

import unittest

from given import GOOD, gap_by_trying, small_sets
from weightset.sets import first_gap, weighing


class Weighing(unittest.TestCase):
    def check(self, weights, number):
        """The places told are places of the set, rising, and their weights are together the number."""
        places = weighing(weights, number)
        self.assertIs(type(places), list)
        for place in places:
            self.assertIs(type(place), int)
            self.assertTrue(0 <= place < len(weights), (weights, number, places))
        for before, after in zip(places, places[1:]):
            self.assertLess(before, after, (weights, number, places))
        self.assertEqual(sum(weights[place] for place in places), number, (weights, places))
        return places

    def test_zero_by_none(self):
        for weights in ([], [1], [7], [1, 1, 1], GOOD, [10**60]):
            self.assertEqual(weighing(weights, 0), [])

    def test_where_only_one_choice_does(self):
        self.assertEqual(weighing([1], 1), [0])
        self.assertEqual(weighing([2, 4, 20, 1, 30], 5), [1, 3])
        self.assertEqual(weighing([4, 1, 2, 20], 6), [0, 2])
        self.assertEqual(weighing([4, 1, 2, 20], 7), [0, 1, 2])
        self.assertEqual(weighing([1, 1, 1], 3), [0, 1, 2])

    def test_the_first_gap_less_one_takes_all_up_to_it(self):
        self.assertEqual(weighing([8, 4, 100, 2, 1], 15), [0, 1, 3, 4])
        self.assertEqual(weighing([3, 3, 1, 9, 1, 50], 17), [0, 1, 2, 3, 4])

    def test_where_the_heaviest_that_fits_is_alike(self):
        self.check([2, 1, 2, 1, 2], 4)
        self.check([3, 1, 3, 1, 3], 7)

    def test_every_number_of_small_sets(self):
        for weights in small_sets():
            for number in range(gap_by_trying(weights)):
                self.check(weights, number)

    def test_many_weights(self):
        for weights in ([1] * 150, list(range(150, 0, -1)), list(range(1, 121)), [1] * 100 + [101] * 20 + [9999] * 9):
            gap = first_gap(weights)
            for number in (0, 1, gap // 3, gap // 2, gap - 2, gap - 1):
                self.check(weights, number)

    def test_every_number_of_many_weights(self):
        weights = [(7 * k) % 13 + 1 for k in range(110)]
        for number in range(first_gap(weights)):
            self.check(weights, number)

    def test_weights_of_sixty_figures(self):
        doubling = [2**k for k in range(200)]
        self.assertEqual(self.check(doubling, 2**199 + 1), [0, 199])
        self.assertEqual(self.check(doubling, 2**200 - 1), list(range(200)))
        tens = [10**k for k in range(60)] * 9
        self.check(tens, 10**60 - 1)
        self.check(tens, 123456789 * 10**51 + 987654321)

    def test_a_number_far_beyond_the_count(self):
        self.check([1] * 3000, 2999)

    def test_the_same_when_asked_again(self):
        for weights in ([2, 1, 2, 1, 2], [1] * 120, list(range(30, 0, -1)), GOOD):
            for number in range(first_gap(weights)):
                first = weighing(weights, number)
                weighing([5, 1, 1, 2], 3)
                first_gap(weights)
                self.assertEqual(weighing(weights, number), first)
                self.assertEqual(weighing(list(weights), number), first)

    def test_what_is_told_is_the_askers_own(self):
        for number in (0, 3, 7):
            told = weighing(GOOD, number)
            kept = list(told)
            other = weighing(GOOD, number)
            self.assertIsNot(told, other)
            told.append(99)
            told.insert(0, -1)
            self.assertEqual(other, kept)
            self.assertEqual(weighing(GOOD, number), kept)
            other.clear()
            self.assertEqual(weighing(GOOD, number), kept)

    def test_a_changed_list_is_another_set(self):
        weights = [1, 2]
        self.assertEqual(weighing(weights, 3), [0, 1])
        weights.insert(0, 3)
        places = self.check(weights, 6)
        self.assertEqual(places, [0, 1, 2])
        self.assertEqual(first_gap(weights), 7)


if __name__ == "__main__":
    unittest.main()
