import itertools
import unittest

from samples import (BOUND, ROUNDS, all_lists, lists_of_each_length, rest_of, scattered, stretches_of,
                     stubborn_lists)
from sumrests.stretches import stretch


class Stretch(unittest.TestCase):
    def holds(self, numbers, n):
        handed = list(numbers)
        told = stretch(handed, n)
        self.assertEqual(handed, numbers, "the list was changed")
        if told is None:
            self.assertEqual(stretches_of(numbers, n), [], (numbers, n))
            self.assertLess(len(numbers), n)
            return
        self.assertIs(type(told), tuple)
        self.assertEqual([type(place) for place in told], [int, int])
        start, end = told
        self.assertTrue(0 <= start < end <= len(numbers), (numbers, n, told))
        self.assertEqual(rest_of(sum(numbers[start:end]), n), 0, (numbers, n, told))

    def test_written_out(self):
        # Lists with one stretch that leaves nought, or with none.
        self.assertEqual(stretch([7], 7), (0, 1))
        self.assertEqual(stretch([0], 7), (0, 1))
        self.assertEqual(stretch([3, 4], 7), (0, 2))
        self.assertEqual(stretch([1, 3, 4], 7), (1, 3))
        self.assertEqual(stretch([1, 3, 4, 1], 7), (1, 3))
        self.assertEqual(stretch([1, -14, 2], 7), (1, 2))
        self.assertEqual(stretch([1, 1, -2], 7), (0, 3))
        self.assertEqual(stretch([1, 2, -2, 5], 24), (1, 3))
        self.assertEqual(stretch([BOUND, 1, -BOUND, -1], 24), (0, 4))
        self.assertEqual(stretch([BOUND, -BOUND], 24), (0, 2))
        self.assertIsNone(stretch([], 7))
        self.assertIsNone(stretch([], 1))
        self.assertIsNone(stretch([1], 7))
        self.assertIsNone(stretch([1, 1, 1, 1, 1, 1], 7))
        self.assertIsNone(stretch([1, 3, 1], 7))
        self.assertIsNone(stretch([BOUND], 7))
        self.assertIsNone(stretch([BOUND, BOUND], 24))

    def test_all_short_lists_of_small_rounds(self):
        for n in range(1, 6):
            for length in range(6):
                for numbers in itertools.product(range(-1, n - 1), repeat=length):
                    self.holds(list(numbers), n)

    def test_every_round(self):
        for n in ROUNDS:
            for numbers in all_lists(n) + lists_of_each_length(n) + stubborn_lists(n):
                self.holds(numbers, n)

    def test_the_only_stretch_is_found_wherever_it_lies(self):
        for n in ROUNDS[2:]:
            for length in range(1, n):
                for place in range(length):
                    for nought in (0, n, -n, 10 ** 11 * n):
                        numbers = [1] * length
                        numbers[place] = nought
                        self.assertEqual(stretch(numbers, n), (place, place + 1))

    def test_as_many_numbers_as_the_round_are_always_enough(self):
        for n in ROUNDS:
            for length in (n, n + 1, n + 5, 60):
                for seed in range(12):
                    for bound in (1, n, BOUND):
                        numbers = scattered(length, seed, -bound, bound)
                        self.assertIsNotNone(stretch(numbers, n), (numbers, n))
            for numbers in ([1] * n, [-1] * n, [BOUND] * n, [-BOUND] * n, [n - 1] * n):
                self.assertIsNotNone(stretch(numbers, n), (numbers, n))
                self.holds(numbers, n)

    def test_one_number_fewer_than_the_round_may_be_too_few(self):
        for n in ROUNDS:
            self.assertIsNone(stretch([1] * (n - 1), n))
            self.assertIsNone(stretch([-1] * (n - 1), n))

    def test_somewhat_beyond_the_bounds(self):
        for n in ROUNDS:
            self.holds(scattered(70, n, -BOUND - 99, BOUND + 99), n)
            self.holds([BOUND + 1], n)
            self.holds([-BOUND - 1, BOUND + 3], n)

    def test_the_handed_in_list_is_not_kept(self):
        for n in ROUNDS:
            handed = [1] * n
            self.assertEqual(stretch(handed, n), (0, n))
            handed[0] = n
            self.assertEqual(stretch(handed, n), (0, 1))
            handed.clear()
            self.assertIsNone(stretch(handed, n))


if __name__ == "__main__":
    unittest.main()
