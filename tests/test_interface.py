"""The names of the interface, and how its classes stand under each other."""

import unittest

from weightset import answers, errors, sets, telling


class Interface(unittest.TestCase):
    def test_errors(self):
        self.assertEqual(errors.WeightError.__bases__, (ValueError,))
        for kind in (errors.BadSet, errors.BadNumber, errors.BadPlace):
            self.assertEqual(kind.__bases__, (errors.WeightError,))

    def test_answers(self):
        for kind in (answers.All, answers.Gap, answers.Best):
            self.assertEqual(kind.__bases__, (answers.Answer,))
            self.assertIn("shows", vars(kind))

    def test_fields_of_answers(self):
        self.assertEqual(vars(answers.All()), {})
        self.assertEqual(vars(answers.Gap(5)), {"number": 5})
        self.assertEqual(vars(answers.Best([4, 1], [3, 2])), {"added": [4, 1], "misses": [3, 2]})
        self.assertEqual(vars(answers.Best([], [])), {"added": [], "misses": []})

    def test_each_stands_in_its_file(self):
        for name in ("WeightError", "BadSet", "BadNumber", "BadPlace"):
            self.assertEqual(getattr(errors, name).__module__, "weightset.errors")
        for name in ("first_gap", "weighing", "without"):
            self.assertEqual(getattr(sets, name).__module__, "weightset.sets")
        for name in ("Answer", "All", "Gap", "Best"):
            self.assertEqual(getattr(answers, name).__module__, "weightset.answers")
        for name in ("told", "fewest"):
            self.assertEqual(getattr(telling, name).__module__, "weightset.telling")

    def test_arguments_have_their_names(self):
        self.assertEqual(sets.first_gap(weights=[1, 2]), 4)
        self.assertEqual(sets.weighing(weights=[1, 2], number=3), [0, 1])
        self.assertEqual(sets.without(weights=[1, 2], place=0), 1)
        self.assertIs(type(telling.told(weights=[1, 2], most=3)), answers.All)
        self.assertEqual(telling.fewest(weights=[1, 2], most=4).added, [4])
        self.assertIs(answers.All().shows(weights=[1, 2], most=3), True)
        self.assertIs(answers.Gap(number=4).shows(weights=[1, 2], most=4), True)
        self.assertIs(answers.Best(added=[4], misses=[4]).shows(weights=[1, 2], most=4), True)


if __name__ == "__main__":
    unittest.main()
