"""What the tests share: lists to try, and the document's words for rests, done plainly."""

import itertools
import signal
from contextlib import contextmanager

ROUNDS = list(range(1, 25))
PRIMES = [2, 3, 5, 7, 11, 13, 17, 19, 23]
NO_ROUNDS = [0, 25, -1, -7, -24, -25, 26, 48, 100, 10 ** 12, -10 ** 12, 10 ** 30, 10 ** 5000, -10 ** 5000]
BOUND = 10 ** 12


class Untouchable(list):
    """A list that fails as soon as it is looked into."""

    def fail(self, *ignored):
        raise AssertionError("looked into the list")

    __iter__ = __len__ = __getitem__ = __contains__ = __eq__ = __reversed__ = fail


@contextmanager
def in_good_time(seconds):
    """Fails what takes longer, rather than to wait for it."""
    def late(*ignored):
        raise AssertionError(f"not done after {seconds} seconds")

    before = signal.signal(signal.SIGALRM, late)
    signal.alarm(seconds)
    try:
        yield
    finally:
        signal.alarm(0)
        signal.signal(signal.SIGALRM, before)


def rest_of(number, n):
    # Worked out from the number's size alone, so that it doesn't share Python's % below nought with the program.
    left = abs(number) % n
    return left if number >= 0 or left == 0 else n - left


def set_of(numbers, n):
    found = {rest_of(number, n) for number in numbers}
    return [rest for rest in range(n) if rest in found]


def sums_of(one, other, n):
    return set_of([a + b for a in one for b in other], n)


def stays_of(numbers, n):
    return [by for by in range(n) if set_of([x + by for x in numbers], n) == set_of(numbers, n)]


def step_of(numbers, n):
    by = 1
    while n % by != 0 or set_of([x + by for x in numbers], n) != set_of(numbers, n):
        by += 1
    return by


def stretches_of(numbers, n):
    """All stretches that leave nought, each written out and summed by itself."""
    places = range(len(numbers) + 1)
    return [(a, b) for a in places for b in places if a < b and rest_of(sum(numbers[a:b]), n) == 0]


def left_at(numbers, places, n):
    return rest_of(sum(numbers[place] for place in places), n)


def choices_of(numbers, count):
    """All choices of so many places; for short lists."""
    return [list(places) for places in itertools.combinations(range(len(numbers)), count)]


def table_written_out(numbers, n):
    """The table from all choices; for short lists."""
    counts = range(len(numbers) + 1)
    return [set_of([left_at(numbers, places, n) for places in choices_of(numbers, k)], n) for k in counts]


def table_of(numbers, n):
    """The table reckoned by how many numbers of each rest are taken; for lists of any length."""
    rests = [rest_of(number, n) for number in numbers]
    found = {(0, 0)}
    for rest in range(n):
        taken = range(rests.count(rest) + 1)
        found = {(count + k, (left + k * rest) % n) for count, left in found for k in taken}
    return [[rest for rest in range(n) if (count, rest) in found] for count in range(len(numbers) + 1)]


def divisors(n):
    return [d for d in range(1, n + 1) if n % d == 0]


def subsets(n):
    return [[r for r in range(n) if mask >> r & 1] for mask in range(2 ** n)]


def scattered(length, seed, low, high):
    """The same numbers from low to high in every run, without a visible order."""
    told = []
    state = seed
    for _ in range(length):
        state = (state * 6364136223846793005 + 1442695040888963407) % 2 ** 64
        told.append(low + (state >> 11) % (high - low + 1))
    return told


def periodic_lists(n):
    """For each divisor: its multiples, them moved, and two such rows of multiples."""
    told = []
    for d in divisors(n):
        row = list(range(0, n, d))
        told.append(row)
        told.append([x - 3 * n + 1 for x in row])
        told.append(row + [x + 1 + 5 * n for x in row])
    return told


def plain_lists(n):
    return [
        [],
        [0],
        [-1],
        [n],
        [0, 1],
        [n - 1, 0, -n, n, 0],
        list(range(n)),
        list(range(n // 2 + 1)),
        [-BOUND, BOUND],
        [-BOUND, -1, 0, 1, BOUND, BOUND, -BOUND],
        [3, 3, 3],
    ]


def scattered_lists(n):
    told = [scattered(length, 100 * n + length, -50, 50) for length in (2, 3, 4, 5, 7, 9)]
    told.append(scattered(6, n, -BOUND, BOUND))
    return told


def long_lists(n):
    return [
        scattered(60, n, -BOUND, BOUND),
        scattered(60, n + 1, -2, 2),
        [5] * 60,
        [n * k for k in range(60)],
    ]


def short_lists(n):
    return plain_lists(n) + periodic_lists(n) + scattered_lists(n)


def all_lists(n):
    return short_lists(n) + long_lists(n)


def same_set_lists(numbers, n):
    """Other lists that have the set of this one."""
    return [
        set_of(numbers, n),
        numbers[::-1],
        numbers + numbers[:2],
        [x + n * (3 * k - 4) for k, x in enumerate(numbers)],
        [x - 10 ** 9 * n for x in numbers],
    ]


def lists_of_each_length(n):
    """For each length from 0 to 60 a list of numbers of all sizes, and one of small numbers."""
    told = []
    for length in range(61):
        told.append(scattered(length, 1000 * n + length, -BOUND, BOUND))
        told.append(scattered(length, 2000 * n + length, -3, 3))
    return told


def stubborn_lists(n):
    """Lists of up to 60 numbers of which few sums leave nought."""
    ones = [[1] * (n - 1), [-1] * (n - 1), [n + 1] * (n - 1), [BOUND // n * n + 1] * (n - 1), [1] * 60]
    pairs = [[0] * (n - 1) + [1] * (n - 1), [1, 0] * (n - 1), [-n, n - 1] * (n - 1), [5, 6] * (n - 1)]
    halves = [[k * d for k in range(60)] for d in divisors(n)]
    return ones + pairs + halves
