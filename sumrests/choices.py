"""Choices of a list: rising lists of its places, and what the numbers at them leave by a round."""

from sumrests.rounds import check_round


def choose(numbers, count, wanted, n):
    check_round(n)
    if count < 0 or count > len(numbers):
        return None
    return choices_by_count(numbers, count, n)[count].get(wanted % n)


def table(numbers, n):
    check_round(n)
    return [sorted(by_rest) for by_rest in choices_by_count(numbers, len(numbers), n)]


def barren(n):
    check_round(n)
    # So many places take in a one, but never n of them: their sum lies between nought and n.
    return [0] * (n - 1) + [1] * (n - 1)


def groups(numbers, n):
    check_round(n)
    told = []
    free = list(range(len(numbers)))
    group = group_among(free, numbers, n)
    while group is not None:
        told.append(group)
        free = [place for place in free if place not in group]
        group = group_among(free, numbers, n)
    return told


def group_among(free, numbers, n):
    chosen = choose([numbers[place] for place in free], n, 0, n)
    if chosen is None:
        return None
    return [free[k] for k in chosen]


def choices_by_count(numbers, most, n):
    # For each count up to the most: a dict from each rest that can be left to one choice that leaves it. One is
    # enough, since what a choice can be lengthened to hangs on its count and its rest alone.
    found = [{} for count in range(most + 1)]
    found[0][0] = []
    for place, number in enumerate(numbers):
        # From the greatest count down: so the shorter choices don't have this place yet.
        for count in range(most, 0, -1):
            lengthen(found[count - 1], found[count], place, number, n)
    return found


def lengthen(shorter, longer, place, number, n):
    for rest in shorter:
        reached = (rest + number) % n
        if reached not in longer:
            longer[reached] = shorter[rest] + [place]
