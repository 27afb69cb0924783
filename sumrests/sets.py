"""Sets of rests: what the numbers of lists, and their sums, leave by a round."""

from sumrests.rounds import check_round


def rests(numbers, n):
    check_round(n)
    return sorted(set([number % n for number in numbers]))


def sums(one, other, n):
    check_round(n)
    # Rests stand in for the numbers, so that long lists cost no more than their sets do.
    other_rests = rests(other, n)
    found = []
    for first in rests(one, n):
        found.extend([first + second for second in other_rests])
    return rests(found, n)


def shifted(numbers, by, n):
    check_round(n)
    return rests([number + by for number in numbers], n)


def stays(numbers, n):
    check_round(n)
    return [by for by in range(n) if is_left_alone(numbers, by, n)]


def step(numbers, n):
    check_round(n)
    # Never empty: shifting by the round itself leaves every set as it is.
    return min([by for by in range(1, n + 1) if n % by == 0 and is_left_alone(numbers, by, n)])


def is_left_alone(numbers, by, n):
    return shifted(numbers, by, n) == rests(numbers, n)
