import itertools
import unittest

from samples import (BOUND, ROUNDS, all_lists, in_good_time, left_at, lists_of_each_length, scattered,
                     stubborn_lists, table_of)
from sumrests.choices import barren, groups


class Groups(unittest.TestCase):
    def holds(self, numbers, n):
        handed = list(numbers)
        with in_good_time(20):
            told = groups(handed, n)
        asked = (numbers, n, told)
        self.assertEqual(handed, numbers, "the list was changed")
        self.assertIs(type(told), list)
        for group in told:
            self.assertIs(type(group), list, asked)
            self.assertTrue(all(type(place) is int for place in group), asked)
            self.assertEqual(group, sorted(set(group)), asked)
            self.assertEqual(len(group), n, asked)
            self.assertTrue(all(0 <= place < len(numbers) for place in group), asked)
            self.assertEqual(left_at(numbers, group, n), 0, asked)
        taken = [place for group in told for place in group]
        self.assertEqual(len(taken), len(set(taken)), asked)
        free = [number for place, number in enumerate(numbers) if place not in taken]
        self.assertLessEqual(len(free), 2 * n - 2, asked)
        if len(free) >= n:
            self.assertNotIn(0, table_of(free, n)[n], asked)
        lists = [handed, told] + told
        self.assertEqual(len({id(one) for one in lists}), len(lists), asked)
        return told

    def test_written_out(self):
        # Lists that have but one answer.
        self.assertEqual(groups([], 1), [])
        self.assertEqual(groups([], 7), [])
        self.assertEqual(groups([-5], 1), [[0]])
        self.assertEqual(groups([1, 2], 3), [])
        self.assertEqual(groups([1, 1, 2], 3), [])
        self.assertEqual(groups([1, 1, -5], 3), [[0, 1, 2]])
        self.assertEqual(groups([1, 0, 3], 2), [[0, 2]])
        self.assertEqual(sorted(groups([1, 0, 3, -2], 2)), [[0, 2], [1, 3]])
        self.assertEqual(groups([1, 5, 0, 1, 0, -3], 4), [[0, 1, 3, 5]])
        self.assertEqual(groups([BOUND] * 24, 24), [list(range(24))])
        self.assertEqual(groups([BOUND] * 23, 24), [])

    def test_the_round_one_takes_each_place(self):
        for length in range(61):
            told = self.holds(scattered(length, length, -BOUND, BOUND), 1)
            self.assertEqual(sorted(told), [[place] for place in range(length)])

    def test_every_length(self):
        for n in ROUNDS:
            for numbers in lists_of_each_length(n):
                self.holds(numbers, n)

    def test_every_round(self):
        for n in ROUNDS:
            for numbers in all_lists(n) + stubborn_lists(n):
                self.holds(numbers, n)

    def test_all_short_lists_of_small_rounds(self):
        for n in range(1, 5):
            for length in range(6):
                for numbers in itertools.product(range(-1, n - 1), repeat=length):
                    self.holds(list(numbers), n)

    def test_one_rest_makes_as_many_groups_as_there_is_room_for(self):
        for n in ROUNDS:
            for number in (0, 1, -1, n, BOUND, -BOUND):
                for length in (n - 1, n, 2 * n - 1, 2 * n, 60):
                    self.assertEqual(len(self.holds([number] * length, n)), length // n)

    def test_the_barren_list_has_none(self):
        for n in ROUNDS:
            self.assertEqual(self.holds(barren(n), n), [])
            for number in (0, 1, -1, BOUND, -BOUND):
                self.assertEqual(len(self.holds([number] + barren(n), n)), 1)

    def test_somewhat_beyond_the_bounds(self):
        for n in ROUNDS:
            self.holds(scattered(70, n, -BOUND - 99, BOUND + 99), n)

    def test_told_lists_are_the_askers_own(self):
        for n in ROUNDS:
            numbers = scattered(60, n, -BOUND, BOUND)
            first = groups(numbers, n)
            for group in first:
                group.append(99)
            first.append([5])
            second = self.holds(numbers, n)
            self.assertFalse({id(one) for one in second} & {id(one) for one in first})

    def test_the_handed_in_list_is_not_kept(self):
        for n in ROUNDS:
            handed = [3] * n
            told = groups(handed, n)
            handed.append(3)
            handed[0] = 4
            self.assertEqual(told, [list(range(n))])
            self.holds(handed, n)
            handed.clear()
            self.assertEqual(told, [list(range(n))])
            self.assertEqual(groups(handed, n), [])


if __name__ == "__main__":
    unittest.main()
