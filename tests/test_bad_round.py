import unittest

from samples import BOUND, NO_ROUNDS, Untouchable, all_lists, in_good_time
from sumrests.choices import barren, choose, groups, table
from sumrests.errors import BadRound
from sumrests.sets import rests, shifted, stays, step, sums
from sumrests.stretches import stretch

CALLS = {
    "rests": lambda xs, n: rests(xs, n),
    "sums": lambda xs, n: sums(xs, xs, n),
    "sums with an empty first": lambda xs, n: sums([], xs, n),
    "sums with an empty second": lambda xs, n: sums(xs, [], n),
    "shifted": lambda xs, n: shifted(xs, 1, n),
    "shifted by nought": lambda xs, n: shifted(xs, 0, n),
    "stays": lambda xs, n: stays(xs, n),
    "step": lambda xs, n: step(xs, n),
    "stretch": lambda xs, n: stretch(xs, n),
    "choose": lambda xs, n: choose(xs, 2, 1, n),
    "choose no place": lambda xs, n: choose(xs, 0, 0, n),
    "choose more places than there are": lambda xs, n: choose(xs, 90, 0, n),
    "choose fewer than no places": lambda xs, n: choose(xs, -1, 0, n),
    "choose for a number at the bounds": lambda xs, n: choose(xs, 1, -BOUND, n),
    "table": lambda xs, n: table(xs, n),
    "barren": lambda xs, n: barren(n),
    "groups": lambda xs, n: groups(xs, n),
}


class BadRounds(unittest.TestCase):
    def refused(self, numbers):
        for name, call in CALLS.items():
            for n in NO_ROUNDS:
                with self.subTest(name=name, n=n if abs(n) < 10 ** 40 else "very long"):
                    with self.assertRaises(BadRound) as taken:
                        call(numbers, n)
                    self.assertIs(type(taken.exception), BadRound)

    def test_refused(self):
        self.refused([1, 2, 3])

    def test_refused_for_the_empty_list(self):
        self.refused([])

    def test_refused_at_and_beyond_the_bounds(self):
        self.refused([-BOUND, BOUND] * 30)
        self.refused([-BOUND - 5, BOUND + 5] * 40)

    def test_refused_ahead_of_all_else(self):
        self.refused(Untouchable([1, 2, 3]))

    def test_the_edges_are_rounds(self):
        for name, call in CALLS.items():
            for n in (1, 24):
                for numbers in all_lists(n):
                    with self.subTest(name=name, n=n, numbers=numbers), in_good_time(20):
                        call(numbers, n)


if __name__ == "__main__":
    unittest.main()
