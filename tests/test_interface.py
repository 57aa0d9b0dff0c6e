"""The names of the interface, and how the errors stand under each other."""

import unittest

from weightset import errors, sets


class Interface(unittest.TestCase):
    def test_errors(self):
        self.assertEqual(errors.WeightError.__bases__, (ValueError,))
        for kind in (errors.BadSet, errors.BadNumber, errors.BadPlace):
            self.assertEqual(kind.__bases__, (errors.WeightError,))

    def test_each_stands_in_its_file(self):
        for name in ("WeightError", "BadSet", "BadNumber", "BadPlace"):
            self.assertEqual(getattr(errors, name).__module__, "weightset.errors")
        for name in ("first_gap", "weighing", "without"):
            self.assertEqual(getattr(sets, name).__module__, "weightset.sets")

    def test_arguments_have_their_names(self):
        self.assertEqual(sets.first_gap(weights=[1, 2]), 4)
        self.assertEqual(sets.weighing(weights=[1, 2], number=3), [0, 1])
        self.assertEqual(sets.without(weights=[1, 2], place=0), 1)


if __name__ == "__main__":
    unittest.main()
