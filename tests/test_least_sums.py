import unittest

from samples import PRIMES, ROUNDS, long_lists, short_lists, subsets
from sumrests.sets import rests, stays, sums


class LeastSums(unittest.TestCase):
    def holds(self, one, other, n):
        s = sums(one, other, n)
        h = stays(s, n)
        least = len(sums(one, h, n)) + len(sums(other, h, n)) - len(h)
        self.assertGreaterEqual(len(s), least, (one, other, n))

    def holds_for_a_prime(self, one, other, n):
        least = min(n, len(rests(one, n)) + len(rests(other, n)) - 1)
        self.assertGreaterEqual(len(sums(one, other, n)), least, (one, other, n))

    def pairs(self, n):
        lists = [numbers for numbers in short_lists(n) + long_lists(n) if numbers]
        return [(one, other) for one in lists for other in lists]

    def test_every_round(self):
        for n in ROUNDS:
            for one, other in self.pairs(n):
                self.holds(one, other, n)

    def test_every_prime(self):
        for n in PRIMES:
            for one, other in self.pairs(n):
                self.holds_for_a_prime(one, other, n)

    def test_all_sets_of_small_rounds(self):
        for n in range(1, 7):
            for one in subsets(n)[1:]:
                for other in subsets(n)[1:]:
                    self.holds(one, other, n)
                    if n in PRIMES:
                        self.holds_for_a_prime(one, other, n)

    def test_reached_just_so(self):
        # Two rows of neighbours have no more sums than they must: one rest fewer would break the promise.
        for n in ROUNDS:
            for a in range(1, n + 1):
                for b in range(1, n + 1):
                    told = sums(list(range(a)), list(range(b)), n)
                    self.assertEqual(len(told), min(n, a + b - 1))
                    self.holds(list(range(a)), list(range(b)), n)


if __name__ == "__main__":
    unittest.main()
