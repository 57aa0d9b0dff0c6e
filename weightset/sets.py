"""What can be weighed with a set of weights, each taken once at the most."""

from weightset.errors import BadNumber, BadPlace, BadSet


def first_gap(weights):
    """The least number above 0 that can't be weighed."""
    check_set(weights)
    return gap_of(weights)


def weighing(weights, number):
    """The places, rising, of weights that are together the number."""
    check_set(weights)
    if not is_whole(number) or number < 0 or number >= gap_of(weights):
        raise BadNumber("no whole number from 0 to below the first gap")
    return places_chosen(weights, number)


def without(weights, place):
    """The first gap of the set without the weight at the place."""
    check_set(weights)
    if not is_whole(place) or place < 0 or place >= len(weights):
        raise BadPlace("no place of the set")
    return gap_of(weights[:place] + weights[place + 1:])


def check_set(weights):
    """Raise BadSet where the weights are no set."""
    if not isinstance(weights, list):
        raise BadSet("a set is a list of weights")
    for weight in weights:
        if not is_whole(weight) or weight < 1:
            raise BadSet("a weight is a whole number, 1 or more")


def is_whole(value):
    """Whether the value is a whole number; Python counts True and False as integers, the document doesn't."""
    return isinstance(value, int) and not isinstance(value, bool)


def gap_of(weights):
    """The first gap of what is known to be a set."""
    gap = 1
    for weight in sorted(weights):
        # All below the gap can be weighed with the weights so far. One more that is no heavier than the gap
        # leaves no number out up to their sum; a heavier one leaves the gap out, and so does all that follows.
        if weight > gap:
            break
        gap += weight
    return gap


def places_chosen(weights, number):
    """Places, rising, of weights that are together the number, which is less than the first gap."""
    rest = number
    chosen = []
    placed = [(weight, place) for place, weight in enumerate(weights)]
    for weight, place in sorted(placed, reverse=True):
        # The rest is always less than the first gap of the weights not yet looked at. So a weight that fits can be
        # taken, and one that doesn't isn't needed: what is still to come is enough for the rest either way.
        if weight <= rest:
            chosen.append(place)
            rest -= weight
    return sorted(chosen)
