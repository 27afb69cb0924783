"""Which whole numbers are rounds."""

from sumrests.errors import BadRound

LEAST_ROUND = 1
GREATEST_ROUND = 24


def is_round(n):
    return n >= LEAST_ROUND and n <= GREATEST_ROUND


def check_round(n):
    if not is_round(n):
        # The number itself is not shown: Python refuses to write very long ones, and not with BadRound.
        raise BadRound(f"a round is a whole number from {LEAST_ROUND} to {GREATEST_ROUND}")
