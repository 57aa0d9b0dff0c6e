"""What several test files hand in."""

from itertools import combinations, product

# First gap 8; 5 at the places 1 and 3.
GOOD = [2, 4, 20, 1, 30]


class Thing:
    """Of no kind that the program knows."""


NO_NUMBERS = [
    None, "", "1", "abc", b"", b"1", True, False, [], [1], (), (1,), {}, {1: 1}, {1}, 1.0, 0.0, float("nan"),
    float("inf"), 1j, Thing(), int, len, range(3),
]

NO_LISTS = [
    None, 0, 1, -1, 10**60, True, False, "", "1", "124", b"", b"\x01\x02", (), (1,), (1, 2, 4), {}, {1: 2}, set(),
    {1, 2}, frozenset({1, 2}), 1.5, Thing(), list, range(3), range(1, 3), iter([1, 2]), (w for w in (1, 2)),
]

NO_WEIGHTS = NO_NUMBERS + [0, -1, -2, -10**60, [[]], [[1]], ((),), ((1, 2),)]

LISTS_WITH_BAD_WEIGHTS = (
    [[bad] for bad in NO_WEIGHTS]
    + [[bad, 1, 2] for bad in NO_WEIGHTS]
    + [[1, bad, 2] for bad in NO_WEIGHTS]
    + [[1, 2, bad] for bad in NO_WEIGHTS]
    # Behind a weight that already leaves a gap.
    + [[100, bad] for bad in NO_WEIGHTS]
    + [[1] * 150 + [bad] for bad in NO_WEIGHTS]
)

NO_SETS = NO_LISTS + LISTS_WITH_BAD_WEIGHTS


def small_sets():
    """Each list of up to four weights from 1 to 6, in each order."""
    return [list(weights) for count in range(5) for weights in product(range(1, 7), repeat=count)]


def sums_of(weights):
    """Every sum of some of the weights, by trying all choices of places."""
    places = range(len(weights))
    return {
        sum(weights[place] for place in chosen)
        for count in range(len(weights) + 1)
        for chosen in combinations(places, count)
    }


def gap_by_trying(weights):
    """The least number above 0 that no choice of places adds up to."""
    sums = sums_of(weights)
    number = 1
    while number in sums:
        number += 1
    return number
