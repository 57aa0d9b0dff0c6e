"""Points [1] and [2]: the first gap of a set without one of its weights."""

import unittest

from given import gap_by_trying, small_sets
from weightset.sets import without


class Without(unittest.TestCase):
    def test_the_first_place(self):
        self.assertEqual(without([1, 2, 4], 0), 1)
        self.assertEqual(without([4, 2, 1], 0), 4)

    def test_a_middle_place(self):
        self.assertEqual(without([1, 2, 4], 1), 2)
        self.assertEqual(without([8, 1, 4, 2, 50], 2), 4)

    def test_the_last_place(self):
        self.assertEqual(without([1, 2, 4], 2), 4)
        self.assertEqual(without([4, 2, 1], 2), 1)

    def test_of_one_weight(self):
        self.assertEqual(without([1], 0), 1)
        self.assertEqual(without([9], 0), 1)

    def test_only_one_of_alike_weights_goes(self):
        self.assertEqual(without([1, 1, 1], 0), 3)
        self.assertEqual(without([1, 1, 1], 2), 3)
        self.assertEqual(without([3, 1, 3, 1, 3], 2), 9)

    def test_a_weight_beyond_the_gap_changes_nothing(self):
        self.assertEqual(without([1, 30, 2], 1), 4)

    def test_places_are_those_of_the_list_as_it_stands(self):
        self.assertEqual(without([4, 1, 2, 20], 0), 4)
        self.assertEqual(without([4, 1, 2, 20], 1), 1)
        self.assertEqual(without([4, 1, 2, 20], 2), 2)
        self.assertEqual(without([4, 1, 2, 20], 3), 8)

    def test_each_place_of_small_sets_by_trying_all(self):
        for weights in small_sets():
            for place in range(len(weights)):
                rest = [weight for at, weight in enumerate(weights) if at != place]
                self.assertEqual(without(weights, place), gap_by_trying(rest), (weights, place))

    def test_many_weights_and_sixty_figures(self):
        self.assertEqual(without([1] * 150, 149), 150)
        doubling = [2**k for k in range(200)]
        for place in (0, 1, 100, 198, 199):
            self.assertEqual(without(doubling, place), 2**place)

    def test_is_a_whole_number(self):
        self.assertIs(type(without([1], 0)), int)
        self.assertIs(type(without([1, 1], 0)), int)


if __name__ == "__main__":
    unittest.main()
