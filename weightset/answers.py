"""What is told of a set and a number, each answer with a check of its own."""

from weightset.sets import gap_of


class Answer:
    """What is told of a set and a number."""


class All(Answer):
    """All numbers from 0 to the number can be weighed."""

    def shows(self, weights, most):
        """Whether it is so of this set and this number."""
        return gap_of(weights) > most


class Gap(Answer):
    """A number that is no weight, and that all weights lighter than it together don't come up to."""

    def __init__(self, number):
        self.number = number

    def shows(self, weights, most):
        """Whether it is so of this set, and the number is one from 1 to this one."""
        return is_from_1_to(self.number, most) and is_left_out(self.number, weights)


class Best(Answer):
    """Weights to be put to a set so that all numbers can be weighed, and misses that tell why fewer won't do."""

    def __init__(self, added, misses):
        self.added = list(added)
        self.misses = list(misses)

    def shows(self, weights, most):
        """Whether the weights added do for this set and this number, and the misses tell that fewer won't."""
        return (
            len(self.added) == len(self.misses)
            and are_weights(self.added)
            and are_misses(self.misses, weights, most)
            and gap_of(weights + self.added) > most
        )


def is_from_1_to(number, most):
    """Whether the number is one from 1 to the most."""
    return number >= 1 and number <= most


def is_left_out(number, weights):
    """Whether no weight is the number, and all lighter ones are together less than it."""
    return number not in weights and sum(weight for weight in weights if weight < number) < number


def are_weights(numbers):
    """Whether each of the whole numbers can be a weight."""
    return all(number >= 1 for number in numbers)


def are_misses(misses, weights, most):
    """Whether each is from 1 to the most, no weight, and one more than lighter weights and misses ahead together."""
    rising = sorted(weights)
    at = 0
    together = 0
    for miss in misses:
        # Misses that are right rise, as each is more than those ahead of it; so one way through the weights is
        # enough. One that doesn't rise is refused by those ahead alone, whatever weights are counted.
        while at < len(rising) and rising[at] < miss:
            together += rising[at]
            at += 1
        if at < len(rising) and rising[at] == miss:
            return False
        if not is_from_1_to(miss, most) or miss != together + 1:
            return False
        together += miss
    return True
