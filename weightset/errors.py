"""The errors that weightset raises."""


class WeightError(ValueError):
    """What was handed in can't be taken."""


class BadSet(WeightError):
    """Not a list of whole numbers, each 1 or more."""


class BadNumber(WeightError):
    """Not a whole number within the limits that are told."""


class BadPlace(WeightError):
    """Not a place of the set."""
