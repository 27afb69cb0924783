"""Which whole numbers are rounds."""

from sumrests.errors import BadRound

LEAST_ROUND = 1
GREATEST_ROUND = 24


def check_round(n):
    if n < LEAST_ROUND or n > GREATEST_ROUND:
        # The number itself is not shown: Python refuses to write very long ones, and not with BadRound.
        raise BadRound(f"a round is a whole number from {LEAST_ROUND} to {GREATEST_ROUND}")
