"""Point [1]: what is refused, with which error, and which goes first."""

import unittest

from given import GOOD, LISTS_WITH_BAD_WEIGHTS, NO_LISTS, NO_NUMBERS, NO_SETS
from weightset.errors import BadNumber, BadPlace, BadSet, WeightError
from weightset.sets import first_gap, weighing, without
from weightset.telling import fewest, told


class Refusals(unittest.TestCase):
    def refused(self, kind, asked, *handed):
        """The call raises just this kind, which is none of the other two."""
        try:
            answer = asked(*handed)
        except WeightError as raised:
            self.assertIs(type(raised), kind, handed)
            self.assertIsInstance(raised, ValueError)
            for other in (BadSet, BadNumber, BadPlace):
                self.assertEqual(isinstance(raised, other), other is kind)
        else:
            self.fail(f"{asked.__name__}{handed!r} told {answer!r}")

    def test_no_list(self):
        for weights in NO_LISTS:
            self.refused(BadSet, first_gap, weights)
            self.refused(BadSet, weighing, weights, 0)
            self.refused(BadSet, without, weights, 0)
            self.refused(BadSet, told, weights, 0)
            self.refused(BadSet, fewest, weights, 0)

    def test_a_list_with_a_bad_weight(self):
        for weights in LISTS_WITH_BAD_WEIGHTS:
            self.refused(BadSet, first_gap, weights)
            self.refused(BadSet, weighing, weights, 0)
            self.refused(BadSet, weighing, weights, 1)
            self.refused(BadSet, without, weights, 0)
            for most in (0, 1, 10**60):
                self.refused(BadSet, told, weights, most)
                self.refused(BadSet, fewest, weights, most)

    def test_a_bad_weight_is_refused_also_where_it_would_be_left_out(self):
        self.refused(BadSet, without, [1, 0, 2], 1)
        self.refused(BadSet, without, [None], 0)

    def test_no_number(self):
        for number in NO_NUMBERS:
            for asked in (weighing, told, fewest):
                self.refused(BadNumber, asked, GOOD, number)
                self.refused(BadNumber, asked, [], number)

    def test_a_number_below_0(self):
        for number in (-1, -2, -10**60):
            for asked in (weighing, told, fewest):
                self.refused(BadNumber, asked, GOOD, number)
                self.refused(BadNumber, asked, [], number)

    def test_a_number_from_the_first_gap_on(self):
        for weights in ([], [1], [2], [1, 1], GOOD, [1] * 150, [2**k for k in range(200)]):
            gap = first_gap(weights)
            for number in (gap, gap + 1, gap + 2, 10 * gap, 10**70):
                self.refused(BadNumber, weighing, weights, number)

    def test_a_number_beyond_the_gap_is_refused_also_where_it_can_be_weighed(self):
        self.refused(BadNumber, weighing, [2], 2)
        self.refused(BadNumber, weighing, GOOD, 20)
        self.refused(BadNumber, weighing, GOOD, sum(GOOD))

    def test_a_number_from_the_first_gap_on_is_right_where_it_is_told_of(self):
        for weights in ([], [1], [2], [1, 1], GOOD, [1] * 150, [2**k for k in range(200)], [10**60]):
            gap = first_gap(weights)
            for most in (gap, gap + 1, 10 * gap, 10**70):
                told(weights, most)
                fewest(weights, most)

    def test_no_place(self):
        for place in NO_NUMBERS:
            self.refused(BadPlace, without, GOOD, place)
            self.refused(BadPlace, without, [1], place)

    def test_a_place_outside_of_the_set(self):
        for weights in ([1], [7, 7], GOOD, [1] * 150):
            for place in (-1, -len(weights), -10**60, len(weights), len(weights) + 1, 10**60):
                self.refused(BadPlace, without, weights, place)

    def test_any_place_of_no_weights(self):
        for place in (-1, 0, 1, 10**60):
            self.refused(BadPlace, without, [], place)

    def test_a_bad_set_goes_first(self):
        for weights in NO_SETS:
            for bad in (None, "x", True, [1], -1, 10**70):
                self.refused(BadSet, weighing, weights, bad)
                self.refused(BadSet, without, weights, bad)
                self.refused(BadSet, told, weights, bad)
                self.refused(BadSet, fewest, weights, bad)


class Unchanged(unittest.TestCase):
    def kept_by(self, asked, weights, *more):
        """The list holds the same objects in the same order after the call, whether it tells or refuses."""
        before = list(weights)
        try:
            asked(weights, *more)
        except WeightError:
            pass
        self.assertEqual(len(weights), len(before))
        for now, then in zip(weights, before):
            self.assertIs(now, then)

    def test_what_is_handed_in_is_as_it_was(self):
        handed = [
            [], [1], [3, 1, 2], [2, 2, 1, 1], [2, 4, 20, 1, 30], list(range(150, 0, -1)), [10**60, 10**59, 1],
            [3, 0, 1], [3, None, 1], [3, "2", 1], [2, True, 1], [5, [1, 2], 4],
        ]
        for weights in handed:
            self.kept_by(first_gap, weights)
            for more in (0, 1, 2, 3, 7, 149, -1, 10**70, None, True, "1", [0], (0,)):
                self.kept_by(weighing, weights, more)
                self.kept_by(without, weights, more)
                self.kept_by(told, weights, more)
                self.kept_by(fewest, weights, more)

    def test_a_list_handed_in_as_a_number_is_as_it_was(self):
        more = [2, 1]
        self.kept_by(weighing, GOOD, more)
        self.kept_by(without, GOOD, more)
        self.kept_by(told, GOOD, more)
        self.kept_by(fewest, GOOD, more)
        self.assertEqual(more, [2, 1])


if __name__ == "__main__":
    unittest.main()
