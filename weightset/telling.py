"""What is told of a set and a number: what can be weighed up to it, and the fewest weights more so that all can."""

from weightset.answers import All, Best, Gap
from weightset.errors import BadNumber
from weightset.sets import check_set, gap_of, is_whole


def told(weights, most):
    """An All where all numbers from 0 to the most can be weighed, else a Gap."""
    check_asked(weights, most)
    gap = gap_of(weights)
    if gap > most:
        return All()
    return Gap(gap)


def fewest(weights, most):
    """A Best: the fewest weights more with which all numbers from 0 to the most can be weighed."""
    check_asked(weights, most)
    gaps = gaps_to_close(weights, most)
    # A weight that is just the gap closes it and reaches as far as one more weight can.
    return Best(gaps, gaps)


def check_asked(weights, most):
    """Raise BadSet where the weights are no set, then BadNumber where the most is no whole number from 0 on."""
    check_set(weights)
    if not is_whole(most) or most < 0:
        raise BadNumber("no whole number from 0 on")


def gaps_to_close(weights, most):
    """The gaps up to the most, rising, each the first one when a weight is put to the set for each one ahead."""
    gap = 1
    gaps = []
    # What is more than the most stands for an end of the weights: all gaps ahead of it are to be closed.
    for weight in sorted(weights) + [most + 1]:
        while gap < weight and gap <= most:
            gaps.append(gap)
            gap += gap
        gap += weight
    return gaps
