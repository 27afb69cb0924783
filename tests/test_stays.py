import unittest

from samples import BOUND, ROUNDS, all_lists, divisors, same_set_lists, scattered, stays_of, step_of, subsets
from sumrests.sets import rests, shifted, stays, step


class Stays(unittest.TestCase):
    def test_written_out(self):
        self.assertEqual(stays([], 5), [0, 1, 2, 3, 4])
        self.assertEqual(stays([3], 1), [0])
        self.assertEqual(stays([], 1), [0])
        self.assertEqual(stays([0, 4, 8], 12), [0, 4, 8])
        self.assertEqual(stays([1, 5, 9], 12), [0, 4, 8])
        self.assertEqual(stays([0, 1, 6, 7], 12), [0, 6])
        self.assertEqual(stays([0, 1, 6, 8], 12), [0])
        self.assertEqual(stays([-12, 16, -4, 4], 12), [0, 4, 8])
        self.assertEqual(stays(list(range(12)), 12), list(range(12)))
        self.assertEqual(stays([BOUND], 24), [0])
        self.assertEqual(stays([BOUND, BOUND - 12, BOUND], 24), [0, 12])

    def test_every_round(self):
        for n in ROUNDS:
            for numbers in all_lists(n):
                with self.subTest(n=n, numbers=numbers):
                    told = stays(numbers, n)
                    self.assertIs(type(told), list)
                    self.assertTrue(all(type(by) is int for by in told))
                    self.assertEqual(told, stays_of(numbers, n))
                    self.assertEqual(told[0], 0)

    def test_every_set_of_small_rounds(self):
        for n in range(1, 11):
            for numbers in subsets(n):
                self.assertEqual(stays(numbers, n), stays_of(numbers, n), (numbers, n))

    def test_the_empty_list_and_all_rests(self):
        for n in ROUNDS:
            self.assertEqual(stays([], n), list(range(n)))
            self.assertEqual(stays(list(range(n)), n), list(range(n)))
            self.assertEqual(stays([x - 7 * n for x in range(n)], n), list(range(n)))

    def test_just_these_shifts_leave_the_set_as_it_is(self):
        for n in ROUNDS:
            for numbers in all_lists(n):
                told = stays(numbers, n)
                for by in range(n):
                    self.assertEqual(shifted(numbers, by, n) == rests(numbers, n), by in told)

    def test_the_same_sets_are_handled_alike(self):
        for n in ROUNDS:
            for numbers in all_lists(n):
                for other in same_set_lists(numbers, n):
                    self.assertEqual(stays(other, n), stays(numbers, n), (numbers, other, n))

    def test_somewhat_beyond_the_bounds(self):
        for n in ROUNDS:
            numbers = scattered(70, n, -BOUND - 99, BOUND + 99)
            self.assertEqual(stays(numbers, n), stays_of(numbers, n))
            self.assertEqual(stays([BOUND + 1], n), [0])

    def test_the_handed_in_list_is_left_as_it_was(self):
        for n in ROUNDS:
            for numbers in all_lists(n):
                handed = list(numbers)
                stays(handed, n)
                self.assertEqual(handed, numbers)

    def test_told_lists_are_the_askers_own(self):
        for n in ROUNDS:
            for numbers in all_lists(n):
                handed = list(numbers)
                first = stays(handed, n)
                self.assertIsNot(first, handed)
                first.append(99)
                second = stays(handed, n)
                self.assertIsNot(second, first)
                self.assertEqual(second, stays_of(numbers, n))
                handed.append(1)
                self.assertEqual(second, stays_of(numbers, n))
                self.assertEqual(stays(handed, n), stays_of(numbers + [1], n))


class Step(unittest.TestCase):
    def test_written_out(self):
        self.assertEqual(step([], 5), 1)
        self.assertEqual(step([3], 1), 1)
        self.assertEqual(step([], 1), 1)
        self.assertEqual(step([0, 4, 8], 12), 4)
        self.assertEqual(step([1, 5, 9], 12), 4)
        self.assertEqual(step([0, 1, 6, 7], 12), 6)
        self.assertEqual(step([0, 1, 6, 8], 12), 12)
        self.assertEqual(step(list(range(12)), 12), 1)
        self.assertEqual(step([-12, 16, -4, 4], 12), 4)
        self.assertEqual(step([BOUND, BOUND - 12, BOUND], 24), 12)
        self.assertEqual(step([BOUND], 24), 24)

    def test_every_round(self):
        for n in ROUNDS:
            for numbers in all_lists(n):
                told = step(numbers, n)
                self.assertIs(type(told), int)
                self.assertEqual(told, step_of(numbers, n), (numbers, n))

    def test_every_set_of_small_rounds(self):
        for n in range(1, 11):
            for numbers in subsets(n):
                self.assertEqual(step(numbers, n), step_of(numbers, n), (numbers, n))

    def test_every_divisor_is_a_step(self):
        for n in ROUNDS:
            for d in divisors(n):
                for moved in (0, 1, -5 * n - 2):
                    row = [x + moved for x in range(0, n, d)]
                    self.assertEqual(step(row, n), d)
                    self.assertEqual(step(row + row[:1], n), d)

    def test_the_stays_are_the_multiples_of_the_step(self):
        for n in ROUNDS:
            for numbers in all_lists(n) + subsets(min(n, 7)):
                self.assertEqual(stays(numbers, n), list(range(0, n, step(numbers, n))), (numbers, n))

    def test_the_same_sets_are_handled_alike(self):
        for n in ROUNDS:
            for numbers in all_lists(n):
                for other in same_set_lists(numbers, n):
                    self.assertEqual(step(other, n), step(numbers, n), (numbers, other, n))

    def test_somewhat_beyond_the_bounds(self):
        for n in ROUNDS:
            numbers = scattered(70, n, -BOUND - 99, BOUND + 99)
            self.assertEqual(step(numbers, n), step_of(numbers, n))
            self.assertEqual(step([BOUND + 1], n), n)

    def test_the_handed_in_list_is_left_as_it_was_and_not_kept(self):
        for n in ROUNDS:
            for numbers in all_lists(n):
                handed = list(numbers)
                step(handed, n)
                self.assertEqual(handed, numbers)
                handed.append(1)
                self.assertEqual(step(handed, n), step_of(numbers + [1], n))


if __name__ == "__main__":
    unittest.main()
