"""Points [3] and [5]: what an answer shows of a set and a number, also one that is made by hand."""

import unittest

from given import DOUBLING, GOOD, LARGE_SETS, SIXTY_FIGURES, is_best, is_gap, lists_of, reaches, small_sets
from weightset.answers import All, Best, Gap
from weightset.sets import first_gap
from weightset.telling import fewest, told


class Shows(unittest.TestCase):
    def right(self, answer, weights, most):
        self.assertIs(answer.shows(weights, most), True, (vars(answer), weights, most))

    def wrong(self, answer, weights, most):
        self.assertIs(answer.shows(weights, most), False, (vars(answer), weights, most))

    def is_as(self, due, answer, weights, most):
        self.assertIs(answer.shows(weights, most), due, (vars(answer), weights, most))


class AllShows(Shows):
    def test_made_by_hand(self):
        self.right(All(), [], 0)
        self.wrong(All(), [], 1)
        self.right(All(), GOOD, 7)
        self.wrong(All(), GOOD, 8)
        self.wrong(All(), GOOD, 20)
        self.wrong(All(), [2], 2)

    def test_small_sets(self):
        for weights in small_sets():
            for most in range(14):
                self.is_as(reaches(weights, most), All(), weights, most)

    def test_large_sets(self):
        for weights in LARGE_SETS:
            gap = first_gap(weights)
            for most in (0, gap // 2, gap - 1):
                self.right(All(), weights, most)
            for most in (gap, gap + 1, 3 * gap, 10**70):
                self.wrong(All(), weights, most)


class GapShows(Shows):
    def test_below_0_and_0(self):
        for number in (0, -1, -2, -SIXTY_FIGURES):
            for weights in ([], [1], [3], GOOD, DOUBLING):
                for most in (0, 1, 9, SIXTY_FIGURES):
                    self.wrong(Gap(number), weights, most)

    def test_a_weight(self):
        for weight in GOOD + [3]:
            self.wrong(Gap(weight), GOOD + [3], 100)
        self.wrong(Gap(5), [5], 10)
        self.wrong(Gap(SIXTY_FIGURES), [SIXTY_FIGURES], 10**60)

    def test_beyond_the_number(self):
        self.right(Gap(8), GOOD, 8)
        self.wrong(Gap(8), GOOD, 7)
        self.wrong(Gap(1), [], 0)
        self.wrong(Gap(10**60), [], 10**60 - 1)

    def test_right_but_not_the_first(self):
        for number in (1, 3, 7, 9, 100):
            self.right(Gap(number), [2, 4], 100)
        self.right(Gap(SIXTY_FIGURES), GOOD, SIXTY_FIGURES)

    def test_lighter_weights_are_together_enough(self):
        self.wrong(Gap(6), [2, 4], 10)
        self.wrong(Gap(5), [2, 4], 10)
        self.wrong(Gap(3), [1, 1, 1], 10)
        self.right(Gap(4), [1, 1, 1], 10)
        # 7 can't be weighed, but this is not plain of it: 4 and 4 are more than it.
        self.wrong(Gap(7), [4, 4], 10)

    def test_small_sets(self):
        for weights in small_sets():
            for most in (0, 1, 2, 5, 9, 14):
                for number in range(-1, 16):
                    self.is_as(is_gap(number, weights, most), Gap(number), weights, most)

    def test_large_sets(self):
        for weights in LARGE_SETS:
            gap = first_gap(weights)
            for number in [gap - 1, gap, gap + 1, weights[0] - 1, weights[-1] + 1, sum(weights), sum(weights) + 1]:
                for most in (gap, sum(weights) + 1, 10**70):
                    self.is_as(is_gap(number, weights, most), Gap(number), weights, most)

    def test_a_changed_field(self):
        answer = Gap(8)
        self.right(answer, GOOD, 10)
        answer.number = 7
        self.wrong(answer, GOOD, 10)
        answer.number = 8
        self.right(answer, GOOD, 10)


class BestShows(Shows):
    def test_right_fields(self):
        self.right(Best([1, 2, 4], [1, 2, 4]), [], 7)
        self.right(Best([4], [4]), [1, 2], 7)
        self.right(Best([2], [4]), [1, 2], 4)
        self.right(Best([1], [1]), [10**60], 1)
        self.right(Best([1], [1]), [2, 4], 7)

    def test_another_miss_that_is_right(self):
        self.right(Best([1], [3]), [2, 4], 7)
        self.right(Best([1], [7]), [2, 4], 7)

    def test_added_weights_in_another_order(self):
        for added in ([1, 4, 2], [2, 1, 4], [2, 4, 1], [4, 1, 2], [4, 2, 1]):
            self.right(Best(added, [1, 2, 4]), [], 7)

    def test_other_added_weights_that_do(self):
        self.right(Best([1, 2, 3], [1, 2, 4]), [], 6)
        self.right(Best([3, 1, 1], [1, 2, 4]), [], 5)

    def test_added_weights_that_do_not(self):
        for added in (
            [1, 2, 5], [1, 2, 3], [2, 2, 4], [1, 1, 4], [1, 1, 5],
            [1, 2], [1, 4], [2, 4], [1], [],
            [1, 1, 2, 4], [1, 2, 2, 4], [1, 2, 4, 4], [1, 1, 4], [1, 2, 2], [4, 4, 4],
            [0, 2, 4], [1, 0, 4], [1, 2, 0], [0, 1, 2, 4], [1, 2, 4, 0],
            [-1, 2, 4], [1, -2, 4], [1, 2, -4], [1, 2, 4, -1], [-SIXTY_FIGURES, 2, 4],
        ):
            self.wrong(Best(added, [1, 2, 4]), [], 7)

    def test_an_added_weight_of_0_or_less(self):
        for bad in (0, -1, -2, -SIXTY_FIGURES):
            self.wrong(Best([bad], []), [1], 1)
            self.wrong(Best([bad], [1]), [2], 1)
            self.wrong(Best([bad], [1]), [1], 1)
            self.wrong(Best([1, bad], [1, 4]), [2], 6)
            self.wrong(Best([bad, 4], [1, 4]), [2, 1], 7)

    def test_misses_that_are_wrong(self):
        for misses in (
            [1, 2, 5], [1, 3, 4], [2, 2, 4], [1, 2, 3], [1, 2, 8],
            [1, 2], [1, 4], [2, 4], [1], [],
            [1, 1, 2, 4], [1, 2, 2, 4], [1, 2, 4, 4], [1, 1, 4], [1, 2, 2], [1, 1, 1],
            [1, 4, 2], [2, 1, 4], [2, 4, 1], [4, 1, 2], [4, 2, 1],
            [1, 2, 4, 8], [0, 2, 4], [0, 1, 2], [1, 0, 4], [1, 2, 0], [-1, 2, 4], [1, 2, -4],
        ):
            self.wrong(Best([1, 2, 4], misses), [], 7)

    def test_a_miss_beyond_the_number(self):
        self.right(Best([1, 2, 4], [1, 2, 4]), [], 4)
        self.wrong(Best([1, 2, 4], [1, 2, 4]), [], 3)
        self.wrong(Best([1], [1]), [], 0)
        self.wrong(Best([4], [4]), [1, 2], 3)

    def test_a_miss_that_is_a_weight(self):
        self.wrong(Best([5], [1]), [1], 1)
        self.wrong(Best([4], [2]), [1, 2], 3)
        self.wrong(Best([8], [4]), [1, 2, 4], 7)
        self.wrong(Best([1, 2], [1, 4]), [2, 4], 7)

    def test_fewer_and_more_misses_than_added_weights(self):
        self.wrong(Best([4], []), [1, 2], 7)
        self.wrong(Best([], [4]), [1, 2], 7)
        self.wrong(Best([], [1]), [1, 2], 3)
        self.wrong(Best([4], []), [1, 2], 3)
        self.wrong(Best([1, 2, 4], [1, 2]), [], 7)
        self.wrong(Best([1, 2], [1, 2, 4]), [], 7)

    def test_more_weights_than_are_needed(self):
        self.wrong(Best([1, 2, 4, 8], [1, 2, 4]), [], 7)
        self.wrong(Best([1, 1, 2, 3], [1, 2, 4]), [], 7)
        for misses in ([], [1], [2], [3], [4], [5], [6], [7], [8]):
            self.wrong(Best([1], misses), [1, 2, 4], 7)

    def test_none_of_both(self):
        self.right(Best([], []), [], 0)
        self.right(Best([], []), [1, 2], 3)
        self.right(Best([], []), GOOD, 7)
        self.wrong(Best([], []), GOOD, 8)
        self.wrong(Best([], []), [], 1)

    def test_all_small_fields_of_small_sets(self):
        fields = lists_of(range(5), 2)
        for weights in lists_of(range(1, 5), 2):
            for most in range(6):
                for added in fields:
                    for misses in fields:
                        due = is_best(added, misses, weights, most)
                        self.is_as(due, Best(added, misses), weights, most)

    def test_each_field_by_trying_beside_a_right_one(self):
        for weights in ([], [3], [8, 3], [5, 5], [2, 1]):
            for most in (3, 7):
                right = fewest(weights, most)
                for other in lists_of(range(-1, 9), 3):
                    due = is_best(other, right.misses, weights, most)
                    self.is_as(due, Best(other, right.misses), weights, most)
                    due = is_best(right.added, other, weights, most)
                    self.is_as(due, Best(right.added, other), weights, most)

    def test_fields_of_sixty_figures(self):
        added = list(DOUBLING)
        self.right(Best(added, DOUBLING), [], 2**200 - 1)
        self.right(Best(added[::-1], DOUBLING), [], 2**200 - 1)
        self.wrong(Best(added, DOUBLING[::-1]), [], 2**200 - 1)
        self.wrong(Best(added, DOUBLING), [], 2**200)
        self.wrong(Best(added[:-1] + [2**199 + 1], DOUBLING), [], 2**200 - 1)
        self.wrong(Best(added, DOUBLING[:-1] + [2**199 + 1]), [], 2**200 - 1)
        self.wrong(Best(added, DOUBLING[:-1] + [2**199 - 1]), [], 2**200 - 1)

    def test_very_many_weights_and_fields_end_soon(self):
        weights = [4**k for k in range(3000)]
        right = fewest(weights, 4**3000 - 1)
        self.assertGreater(len(right.added), 1000)
        self.right(right, weights, 4**3000 - 1)
        self.right(Best(right.added[::-1], right.misses), weights, 4**3000 - 1)
        self.wrong(Best(right.added, right.misses[:-1] + right.misses[:1]), weights, 4**3000 - 1)
        many = list(range(20000, 0, -1))
        self.wrong(Best(many, many), many, 10**9)
        self.wrong(Best([1] * 50000, [1] * 50000), [2] * 50000, 10**60)

    def test_changed_fields(self):
        answer = Best([1, 2, 4], [1, 2, 4])
        self.right(answer, [], 7)
        answer.added[1] = 1
        self.wrong(answer, [], 7)
        answer.added[1] = 2
        answer.misses.pop()
        self.wrong(answer, [], 7)
        answer.misses.append(4)
        self.right(answer, [], 7)
        answer.added = [2, 4]
        self.wrong(answer, [], 7)
        answer.misses = [2, 4]
        self.right(answer, [1], 7)
        answer.added = []
        answer.misses = []
        self.right(answer, [1], 1)


class ToldShows(Shows):
    def test_of_other_sets_and_other_numbers(self):
        sets = lists_of(range(1, 5), 3)[::2] + [GOOD, [7, 7], [10, 1, 3], [1, 1, 2, 3, 5]]
        for weights in sets:
            for most in (0, 1, 3, 6):
                answer = told(weights, most)
                best = fewest(weights, most)
                self.right(answer, weights, most)
                self.right(best, weights, most)
                for other in sets[::3] + [weights[::-1], weights + [1], weights[1:]]:
                    for number in (0, 2, 3, most + 1):
                        if type(answer) is All:
                            due = reaches(other, number)
                        else:
                            due = is_gap(answer.number, other, number)
                        self.is_as(due, answer, other, number)
                        self.is_as(is_best(best.added, best.misses, other, number), best, other, number)

    def test_of_other_large_sets(self):
        for weights in LARGE_SETS:
            gap = first_gap(weights)
            self.wrong(told(weights, gap - 1), weights, gap)
            self.wrong(told(weights, gap), weights, gap - 1)
            self.right(told(weights, gap), weights, gap + 1)
            self.wrong(told(weights, gap), weights + [gap], gap)
            self.wrong(fewest(weights, gap - 1), weights, gap)
            self.wrong(fewest(weights, gap), weights, gap - 1)
            self.wrong(fewest(weights, gap), weights + [gap], gap)
            self.right(fewest(weights, gap), weights + [10**70], gap)


class Copies(Shows):
    def test_handed_lists_are_copied(self):
        added, misses = [4, 1, 2], [1, 2, 4]
        answer = Best(added, misses)
        added.append(8)
        misses.clear()
        self.assertEqual((answer.added, answer.misses), ([4, 1, 2], [1, 2, 4]))
        self.right(answer, [], 7)
        answer.added.pop()
        answer.misses[0] = 9
        self.assertEqual((added, misses), ([4, 1, 2, 8], []))

    def test_one_list_handed_twice(self):
        numbers = [1, 2]
        answer = Best(numbers, numbers)
        answer.added.append(3)
        self.assertEqual((answer.misses, numbers), ([1, 2], [1, 2]))

    def test_a_field_of_one_answer_handed_to_another(self):
        first = Best([1, 2], [1, 2])
        second = Best(first.added, first.misses)
        first.added.append(7)
        first.misses.append(4)
        self.right(second, [], 3)

    def test_nothing_handed_in_is_changed(self):
        added, misses = [4, 1, 2], [1, 2, 4]
        answers = [All(), Gap(3), Gap(0), Best(added, misses), Best([], []), Best([0, 5], [9, 1])]
        for weights in ([], [3, 1, 2], [5, 5, 1], list(GOOD), list(range(150, 0, -1)), [10**60, 10**59, 1]):
            before = list(weights)
            for answer in answers:
                fields = {name: value if name == "number" else list(value) for name, value in vars(answer).items()}
                for most in (0, 1, 7, 10**61):
                    answer.shows(weights, most)
                    self.assertEqual(weights, before)
                    self.assertEqual(vars(answer), fields)
        self.assertEqual((added, misses), ([4, 1, 2], [1, 2, 4]))

    def test_asked_again_it_shows_the_same(self):
        weights = [2, 1]
        answer = fewest(weights, 9)
        for most, due in ((9, True), (7, False), (9, True), (15, True), (16, False), (9, True)):
            self.is_as(due, answer, weights, most)
        weights.append(4)
        self.wrong(answer, weights, 9)


if __name__ == "__main__":
    unittest.main()
