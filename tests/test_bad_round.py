import unittest

from samples import BOUND, NO_ROUNDS, Untouchable, all_lists
from sumrests.errors import BadRound
from sumrests.sets import rests, shifted, stays, step, sums

CALLS = {
    "rests": lambda xs, n: rests(xs, n),
    "sums": lambda xs, n: sums(xs, xs, n),
    "sums with an empty first": lambda xs, n: sums([], xs, n),
    "sums with an empty second": lambda xs, n: sums(xs, [], n),
    "shifted": lambda xs, n: shifted(xs, 1, n),
    "shifted by nought": lambda xs, n: shifted(xs, 0, n),
    "stays": lambda xs, n: stays(xs, n),
    "step": lambda xs, n: step(xs, n),
}


class BadRounds(unittest.TestCase):
    def refused(self, numbers):
        for name, call in CALLS.items():
            for n in NO_ROUNDS:
                with self.subTest(name=name, n=n if abs(n) < 10 ** 40 else "very long"):
                    with self.assertRaises(BadRound) as taken:
                        call(numbers, n)
                    self.assertIs(type(taken.exception), BadRound)

    def test_refused(self):
        self.refused([1, 2, 3])

    def test_refused_for_the_empty_list(self):
        self.refused([])

    def test_refused_at_and_beyond_the_bounds(self):
        self.refused([-BOUND, BOUND] * 30)
        self.refused([-BOUND - 5, BOUND + 5] * 40)

    def test_refused_ahead_of_all_else(self):
        self.refused(Untouchable([1, 2, 3]))

    def test_the_edges_are_rounds(self):
        for name, call in CALLS.items():
            for n in (1, 24):
                for numbers in all_lists(n):
                    with self.subTest(name=name, n=n, numbers=numbers):
                        call(numbers, n)


if __name__ == "__main__":
    unittest.main()
