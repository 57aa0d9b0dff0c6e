"""What several test files hand in."""

from itertools import combinations, combinations_with_replacement, product

# First gap 8; 5 at the places 1 and 3.
GOOD = [2, 4, 20, 1, 30]


class Thing:
    """Of no kind that the program knows."""


NO_NUMBERS = [
    None, "", "1", "abc", b"", b"1", True, False, [], [1], (), (1,), {}, {1: 1}, {1}, 1.0, 0.0, float("nan"),
    float("inf"), 1j, Thing(), int, len, range(3),
]

NO_LISTS = [
    None, 0, 1, -1, 10**60, True, False, "", "1", "124", b"", b"\x01\x02", (), (1,), (1, 2, 4), {}, {1: 2}, set(),
    {1, 2}, frozenset({1, 2}), 1.5, Thing(), list, range(3), range(1, 3), iter([1, 2]), (w for w in (1, 2)),
]

NO_WEIGHTS = NO_NUMBERS + [0, -1, -2, -10**60, [[]], [[1]], ((),), ((1, 2),)]

LISTS_WITH_BAD_WEIGHTS = (
    [[bad] for bad in NO_WEIGHTS]
    + [[bad, 1, 2] for bad in NO_WEIGHTS]
    + [[1, bad, 2] for bad in NO_WEIGHTS]
    + [[1, 2, bad] for bad in NO_WEIGHTS]
    # Behind a weight that already leaves a gap.
    + [[100, bad] for bad in NO_WEIGHTS]
    + [[1] * 150 + [bad] for bad in NO_WEIGHTS]
)

NO_SETS = NO_LISTS + LISTS_WITH_BAD_WEIGHTS


SIXTY_FIGURES = 10**59 + 12345

DOUBLING = [2**k for k in range(200)]

# Ordinary ones, many weights, and weights of sixty figures.
LARGE_SETS = [
    [1] * 150, list(range(150, 0, -1)), list(range(2, 200)), [1] * 150 + [152] * 150, [1] * 150 + [151] * 150,
    [(7 * k) % 13 + 2 for k in range(110)], list(range(400, 1, -3)), DOUBLING, list(reversed(DOUBLING)),
    DOUBLING[1:], DOUBLING[:100] + DOUBLING[101:], DOUBLING + [2**200 + 1], [10**k for k in range(60)] * 9,
    [10**k for k in range(60)], [10**60], [SIXTY_FIGURES, SIXTY_FIGURES], [SIXTY_FIGURES, 1, SIXTY_FIGURES + 1, 2],
]


def lists_of(values, longest):
    """Each list of up to so many of the values, in each order."""
    return [list(found) for count in range(longest + 1) for found in product(values, repeat=count)]


def small_sets():
    """Each list of up to four weights from 1 to 6, in each order."""
    return lists_of(range(1, 7), 4)


def sums_of(weights):
    """Every sum of some of the weights, by trying all choices of places."""
    places = range(len(weights))
    return {
        sum(weights[place] for place in chosen)
        for count in range(len(weights) + 1)
        for chosen in combinations(places, count)
    }


def gap_by_trying(weights):
    """The least number above 0 that no choice of places adds up to."""
    sums = sums_of(weights)
    number = 1
    while number in sums:
        number += 1
    return number


def is_gap(number, weights, most):
    """Whether point [3] tells of a Gap with this number, word by word."""
    lighter = [weight for weight in weights if weight < number]
    return 1 <= number <= most and weights.count(number) == 0 and sum(lighter) < number


def is_miss(place, misses, weights, most):
    """Whether the miss at the place is as point [5] tells, word by word."""
    miss = misses[place]
    lighter = [weight for weight in weights if weight < miss]
    return 1 <= miss <= most and weights.count(miss) == 0 and miss == sum(lighter) + sum(misses[:place]) + 1


def is_best(added, misses, weights, most, gap_of=gap_by_trying):
    """Whether point [5] tells of a Best with these fields, word by word."""
    if len(added) != len(misses) or [weight for weight in added if weight < 1]:
        return False
    if not all(is_miss(place, misses, weights, most) for place in range(len(misses))):
        return False
    return gap_of(weights + added) > most


def reaches(weights, most):
    """Whether all numbers from 0 to the most can be weighed: bit k stands for the number k."""
    sums = 1
    for weight in weights:
        sums |= sums << weight
    return all(sums >> number & 1 for number in range(most + 1))


def count_by_trying(weights, most):
    """The fewest weights more with which all numbers up to the most can be weighed, by trying all of each count."""
    count = 0
    while True:
        for added in combinations_with_replacement(range(1, most + 1), count):
            if reaches(weights + list(added), most):
                return count
        count += 1
