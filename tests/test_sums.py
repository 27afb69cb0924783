import unittest

from samples import (BOUND, ROUNDS, all_lists, long_lists, same_set_lists, scattered, set_of, short_lists, subsets,
                     sums_of)
from sumrests.sets import rests, shifted, sums

SHIFTS = list(range(-50, 51)) + [-BOUND, BOUND, 1 - BOUND, BOUND - 1, -BOUND - 7, BOUND + 7]


class Sums(unittest.TestCase):
    def test_written_out(self):
        self.assertEqual(sums([], [], 7), [])
        self.assertEqual(sums([1, 2], [], 7), [])
        self.assertEqual(sums([], [1, 2], 7), [])
        self.assertEqual(sums([1, 2], [0, 3], 7), [1, 2, 4, 5])
        self.assertEqual(sums([6, -1], [1, 8, 2], 7), [0, 1])
        self.assertEqual(sums([0, 12], [5, 17], 24), [5, 17])
        self.assertEqual(sums([-3], [8], 1), [0])
        self.assertEqual(sums([BOUND], [BOUND, -BOUND], 7), [0, 2])

    def test_all_sums_written_out(self):
        for n in ROUNDS:
            lists = short_lists(n)
            for one in lists:
                for other in lists:
                    told = sums(one, other, n)
                    self.assertEqual(told, sums_of(one, other, n), (one, other, n))
                    self.assertEqual(sums(other, one, n), told, (one, other, n))

    def test_all_pairs_of_sets_of_small_rounds(self):
        for n in range(1, 6):
            for one in subsets(n):
                for other in subsets(n):
                    self.assertEqual(sums(one, other, n), sums_of(one, other, n), (one, other, n))

    def test_long_lists(self):
        for n in ROUNDS:
            for one in long_lists(n):
                for other in long_lists(n) + [[], [-1], list(range(n))]:
                    self.assertEqual(sums(one, other, n), sums_of(one, other, n), (one, other, n))
                    self.assertEqual(sums(other, one, n), sums_of(one, other, n), (one, other, n))

    def test_one_list_as_both(self):
        for n in ROUNDS:
            for numbers in short_lists(n):
                handed = list(numbers)
                self.assertEqual(sums(handed, handed, n), sums_of(numbers, numbers, n))
                self.assertEqual(handed, numbers)

    def test_kinds(self):
        for n in ROUNDS:
            for numbers in all_lists(n):
                told = sums(numbers, [0, -2], n)
                self.assertIs(type(told), list)
                self.assertTrue(all(type(rest) is int for rest in told))

    def test_the_same_sets_are_handled_alike(self):
        for n in ROUNDS:
            for numbers in all_lists(n):
                told = sums(numbers, [0, -1, 5], n)
                for other in same_set_lists(numbers, n):
                    self.assertEqual(sums(other, [5, n, -1 - n], n), told)
                    self.assertEqual(sums([5, n, -1 - n], other, n), told)

    def test_somewhat_beyond_the_bounds(self):
        for n in ROUNDS:
            one = scattered(70, n, -BOUND - 99, BOUND + 99)
            other = [BOUND + 1, -BOUND - 1]
            self.assertEqual(sums(one, other, n), sums_of(one, other, n))
            self.assertEqual(sums(other, other, n), sums_of(other, other, n))

    def test_both_lists_are_left_as_they_were(self):
        for n in ROUNDS:
            for numbers in all_lists(n):
                one, other = list(numbers), [4, -4, 4]
                sums(one, other, n)
                sums(other, one, n)
                self.assertEqual((one, other), (numbers, [4, -4, 4]))

    def test_told_lists_are_the_askers_own(self):
        for n in ROUNDS:
            for numbers in all_lists(n):
                one, other = rests(numbers, n), [0]
                first = sums(one, other, n)
                self.assertIsNot(first, one)
                self.assertIsNot(first, other)
                first.append(99)
                second = sums(one, other, n)
                self.assertIsNot(second, first)
                self.assertEqual(second, set_of(numbers, n))
                one.append(1)
                other.append(2)
                self.assertEqual(second, set_of(numbers, n))
                self.assertEqual(sums(one, other, n), sums_of(numbers + [1], [0, 2], n))


class Shifted(unittest.TestCase):
    def test_written_out(self):
        self.assertEqual(shifted([], 3, 7), [])
        self.assertEqual(shifted([0, 5], 3, 7), [1, 3])
        self.assertEqual(shifted([0, 5], -3, 7), [2, 4])
        self.assertEqual(shifted([0, 5, 12], 0, 7), [0, 5])
        self.assertEqual(shifted([0, 5], 14, 7), [0, 5])
        self.assertEqual(shifted([0, 1], BOUND, 24), [16, 17])
        self.assertEqual(shifted([0, 1], -BOUND, 24), [8, 9])
        self.assertEqual(shifted([4], -9, 1), [0])

    def test_every_round(self):
        for n in ROUNDS:
            for numbers in all_lists(n):
                for by in SHIFTS:
                    told = shifted(numbers, by, n)
                    self.assertEqual(told, set_of([x + by for x in numbers], n), (numbers, by, n))

    def test_as_sums_with_one_number(self):
        for n in ROUNDS:
            for numbers in all_lists(n):
                for by in (-BOUND, -25, -1, 0, 1, n, BOUND):
                    self.assertEqual(shifted(numbers, by, n), sums(numbers, [by], n))

    def test_kinds(self):
        for n in ROUNDS:
            for numbers in all_lists(n):
                told = shifted(numbers, -2, n)
                self.assertIs(type(told), list)
                self.assertTrue(all(type(rest) is int for rest in told))

    def test_the_same_sets_are_handled_alike(self):
        for n in ROUNDS:
            for numbers in all_lists(n):
                for other in same_set_lists(numbers, n):
                    for by in (-3, 0, 5):
                        self.assertEqual(shifted(other, by, n), shifted(numbers, by, n))
                        self.assertEqual(shifted(other, by - 4 * n, n), shifted(numbers, by, n))

    def test_the_handed_in_list_is_left_as_it_was(self):
        for n in ROUNDS:
            for numbers in all_lists(n):
                for by in (-BOUND, -1, 0, 1, BOUND):
                    handed = list(numbers)
                    shifted(handed, by, n)
                    self.assertEqual(handed, numbers)

    def test_told_lists_are_the_askers_own(self):
        for n in ROUNDS:
            for numbers in all_lists(n):
                handed = rests(numbers, n)
                first = shifted(handed, 0, n)
                self.assertIsNot(first, handed)
                first.append(99)
                second = shifted(handed, 0, n)
                self.assertIsNot(second, first)
                self.assertEqual(second, set_of(numbers, n))
                handed.append(1)
                self.assertEqual(second, set_of(numbers, n))
                self.assertEqual(shifted(handed, 0, n), set_of(numbers + [1], n))


if __name__ == "__main__":
    unittest.main()
