"""Stretches of a list: numbers that stand one behind the other, and what their sum leaves by a round."""

from sumrests.rounds import check_round


def stretch(numbers, n):
    check_round(n)
    # Where the numbers ahead of two places leave the same rest, those between the places leave nought.
    place_of = {0: 0}
    rest = 0
    for place, number in enumerate(numbers, start=1):
        rest = (rest + number) % n
        if rest in place_of:
            return (place_of[rest], place)
        place_of[rest] = place
    return None
