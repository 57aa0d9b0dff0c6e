"""Point [5]: the fewest weights more so that all numbers up to one can be weighed."""

import unittest
from itertools import combinations_with_replacement

from given import (
    DOUBLING, GOOD, LARGE_SETS, SIXTY_FIGURES, count_by_trying, gap_by_trying, is_best, reaches, small_sets,
)
from weightset.answers import All, Answer, Best, Gap
from weightset.sets import first_gap
from weightset.telling import fewest


class Fewest(unittest.TestCase):
    def check(self, weights, most, gap_of=first_gap):
        """A Best is told, and nothing else, with fields that are as point [5] says."""
        answer = fewest(weights, most)
        self.assertIs(type(answer), Best, (weights, most))
        self.assertIsInstance(answer, Answer)
        self.assertNotIsInstance(answer, (All, Gap))
        for numbers in (answer.added, answer.misses):
            self.assertIs(type(numbers), list)
            for number in numbers:
                self.assertIs(type(number), int)
        self.assertIsNot(answer.added, answer.misses)
        told = (answer.added, answer.misses)
        self.assertTrue(is_best(*told, weights, most, gap_of), (weights, most, told))
        self.assertIs(answer.shows(weights, most), True, (weights, most, told))
        return answer

    def test_of_no_weights(self):
        answer = self.check([], 7)
        self.assertEqual(sorted(answer.added), [1, 2, 4])
        self.assertEqual(answer.misses, [1, 2, 4])
        self.assertEqual(len(self.check([], 8).added), 4)

    def test_where_none_is_needed(self):
        for weights, most in (([1, 2], 3), ([], 0), ([5], 0), ([1], 1), (GOOD, 7), ([1, 1, 1], 2)):
            answer = self.check(weights, most)
            self.assertEqual(answer.added, [])
            self.assertEqual(answer.misses, [])

    def test_where_one_is_needed(self):
        self.assertEqual(fewest([10**60], 1).added, [1])
        for weights, most in (([1, 2], 4), ([1, 2], 7), ([2, 3], 6), ([1, 3], 6), ([10**60], 1), (GOOD, 8)):
            answer = self.check(weights, most)
            self.assertEqual(len(answer.added), 1)

    def test_a_weight_that_helps_only_behind_an_added_one(self):
        self.assertEqual(len(self.check([2, 4, 8], 15).added), 1)
        self.assertEqual(len(self.check([3], 6).added), 2)

    def test_a_weight_heavier_than_the_number(self):
        for weights in ([8], [9], [100], [10**60], [8, 8]):
            self.assertEqual(len(self.check(weights, 7).added), 3)

    def test_a_weight_that_is_the_number(self):
        self.assertEqual(len(self.check([7], 7).added), 3)
        self.assertEqual(len(self.check([4], 4).added), 2)
        self.assertEqual(len(self.check([1, 4], 4).added), 1)

    def test_small_sets_by_trying_all(self):
        for weights in small_sets():
            for most in range(14):
                answer = self.check(weights, most)
                self.assertTrue(reaches(weights + answer.added, most), (weights, most))

    def test_all_choices_of_places_of_smaller_sets(self):
        for weights in combinations_with_replacement(range(1, 7), 3):
            turned = list(reversed(weights))
            for most in (1, 5, 9, 13):
                self.check(turned, most, gap_by_trying)

    def test_never_more_than_the_fewest_found_by_trying(self):
        for count in range(4):
            for weights in combinations_with_replacement(range(1, 7), count):
                for most in range(11):
                    told = fewest(list(weights), most)
                    self.assertEqual(len(told.added), count_by_trying(list(weights), most), (weights, most))

    def test_many_weights_and_sixty_figures(self):
        for weights in LARGE_SETS:
            gap = first_gap(weights)
            self.assertEqual(self.check(weights, gap - 1).added, [])
            self.assertEqual(len(self.check(weights, gap).added), 1)
            for most in (0, 1, 7, gap + 1, 10 * gap, SIXTY_FIGURES, 10**61):
                self.check(weights, most)

    def test_a_large_number_of_no_weights_ends_soon(self):
        self.assertEqual(len(self.check([], 10**29).added), (10**29).bit_length())
        self.assertEqual(len(self.check([], SIXTY_FIGURES).added), SIXTY_FIGURES.bit_length())
        self.assertEqual(len(self.check([], 2**200 - 1).added), 200)
        self.assertEqual(len(self.check([], 2**200).added), 201)

    def test_one_of_many_is_gone(self):
        for place in (0, 1, 100, 199):
            weights = DOUBLING[:place] + DOUBLING[place + 1:]
            self.assertEqual(self.check(weights, 2**200 - 1).added, [2**place])

    def test_very_many_weights(self):
        answer = fewest(list(range(40000, 1, -2)), SIXTY_FIGURES)
        self.assertEqual(answer.misses[0], 1)
        self.assertIs(answer.shows(list(range(40000, 1, -2)), SIXTY_FIGURES), True)

    def test_each_list_is_the_askers_own(self):
        for weights, most in (([], 7), ([1, 2], 3), (GOOD, 100), ([5], 5)):
            first = fewest(weights, most)
            second = fewest(weights, most)
            lists = [first.added, first.misses, second.added, second.misses]
            for at, one in enumerate(lists):
                for other in lists[:at]:
                    self.assertIsNot(one, other)
            kept = (list(second.added), list(second.misses))
            first.added.append(99)
            self.assertEqual(first.misses, kept[1])
            first.misses.insert(0, -1)
            first.misses.clear()
            self.assertEqual((second.added, second.misses), kept)
            third = fewest(weights, most)
            self.assertEqual((third.added, third.misses), kept)

    def test_a_changed_list_is_another_set(self):
        weights = [1, 2]
        self.assertEqual(self.check(weights, 7).added, [4])
        weights.append(4)
        self.assertEqual(self.check(weights, 7).added, [])


if __name__ == "__main__":
    unittest.main()
