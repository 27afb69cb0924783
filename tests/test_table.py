import itertools
import unittest

from samples import (BOUND, ROUNDS, all_lists, in_good_time, lists_of_each_length, long_lists, scattered, set_of,
                     short_lists, stubborn_lists, table_of, table_written_out)
from sumrests.choices import table


class Table(unittest.TestCase):
    def test_written_out(self):
        self.assertEqual(table([], 7), [[0]])
        self.assertEqual(table([], 1), [[0]])
        self.assertEqual(table([3], 7), [[0], [3]])
        self.assertEqual(table([-3], 7), [[0], [4]])
        self.assertEqual(table([1, 2, 4], 7), [[0], [1, 2, 4], [3, 5, 6], [0]])
        self.assertEqual(table([2, 2, 2], 4), [[0], [2], [0], [2]])
        self.assertEqual(table([3, -12, 0], 7), [[0], [0, 2, 3], [2, 3, 5], [5]])
        self.assertEqual(table([5, 6, 7], 1), [[0], [0], [0], [0]])
        self.assertEqual(table([BOUND, -BOUND], 24), [[0], [8, 16], [0]])

    def test_all_choices_written_out(self):
        for n in ROUNDS:
            lists = [numbers for numbers in short_lists(n) if len(numbers) <= 9]
            lists += [scattered(10, n, -BOUND, BOUND), scattered(11, n, -4, 4)]
            for numbers in lists:
                told = table(numbers, n)
                self.assertEqual(told, table_written_out(numbers, n), (numbers, n))
                self.assertEqual(table_of(numbers, n), told, "the other way of reckoning")

    def test_all_short_lists_of_small_rounds(self):
        for n in range(1, 5):
            for length in range(6):
                for numbers in itertools.product(range(n), repeat=length):
                    told = table(list(numbers), n)
                    self.assertEqual(told, table_written_out(list(numbers), n), (numbers, n))

    def test_long_lists_by_another_way_of_reckoning(self):
        for n in ROUNDS:
            for numbers in long_lists(n) + lists_of_each_length(n)[-6:] + stubborn_lists(n):
                with in_good_time(20):
                    told = table(numbers, n)
                self.assertEqual(told, table_of(numbers, n), (numbers, n))

    def test_every_length(self):
        for n in (1, 2, 5, 9, 12, 23, 24):
            for numbers in lists_of_each_length(n):
                told = table(numbers, n)
                self.assertEqual(len(told), len(numbers) + 1)
                self.assertEqual(told, table_of(numbers, n), (numbers, n))

    def test_the_first_two_sets_and_the_last(self):
        for n in ROUNDS:
            for numbers in all_lists(n):
                told = table(numbers, n)
                self.assertEqual(told[0], [0])
                self.assertEqual(told[-1], set_of([sum(numbers)], n))
                if numbers:
                    self.assertEqual(told[1], set_of(numbers, n))

    def test_kinds(self):
        for n in ROUNDS:
            for numbers in all_lists(n):
                told = table(numbers, n)
                self.assertIs(type(told), list)
                for rests in told:
                    self.assertIs(type(rests), list)
                    self.assertTrue(all(type(rest) is int for rest in rests))

    def test_somewhat_beyond_the_bounds(self):
        for n in ROUNDS:
            numbers = scattered(70, n, -BOUND - 99, BOUND + 99)
            self.assertEqual(table(numbers, n), table_of(numbers, n))

    def test_no_two_lists_of_it_are_one(self):
        for n in ROUNDS:
            for numbers in all_lists(n):
                handed = list(numbers)
                first, second = table(handed, n), table(handed, n)
                lists = [handed, first, second] + first + second
                self.assertEqual(len({id(one) for one in lists}), len(lists))

    def test_told_lists_are_the_askers_own(self):
        for n in ROUNDS:
            for numbers in [[], [0], [n, 1, -1]] + all_lists(n)[-6:]:
                wanted = table_of(numbers, n)
                handed = list(numbers)
                told = table(handed, n)
                for k, rests in enumerate(told):
                    rests.append(99)
                    self.assertEqual(told[:k] + told[k + 1:], [row + [99] for row in wanted[:k]] + wanted[k + 1:])
                    self.assertEqual(table(handed, n), wanted)
                told.reverse()
                told.append([5])
                self.assertEqual(table(handed, n), wanted)
                self.assertEqual(handed, numbers)

    def test_the_handed_in_list_is_left_as_it_was_and_not_kept(self):
        for n in ROUNDS:
            for numbers in all_lists(n):
                handed = list(numbers)
                told = table(handed, n)
                self.assertEqual(handed, numbers)
                handed.clear()
                self.assertEqual(len(told), len(numbers) + 1)
                self.assertEqual(table(handed, n), [[0]])
                handed.append(1)
                self.assertEqual(table(handed, n), [[0], [1 if n > 1 else 0]])


if __name__ == "__main__":
    unittest.main()
