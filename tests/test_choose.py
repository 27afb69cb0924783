import itertools
import unittest

from samples import (BOUND, ROUNDS, choices_of, in_good_time, left_at, lists_of_each_length, long_lists,
                     plain_lists, rest_of, scattered, scattered_lists, stubborn_lists, table_of,
                     table_written_out)
from sumrests.choices import choose, table


def wanted_numbers(rest, n):
    """Numbers that leave this rest: small, below nought, and close to the bounds."""
    return [rest, rest - n, BOUND - rest_of(BOUND - rest, n), -BOUND + rest_of(BOUND + rest, n)]


class Choose(unittest.TestCase):
    def holds(self, numbers, count, wanted, n, found):
        """What is told for one question, where found is the set for that count."""
        handed = list(numbers)
        told = choose(handed, count, wanted, n)
        asked = (numbers, count, wanted, n, told)
        self.assertEqual(handed, numbers, "the list was changed")
        if rest_of(wanted, n) not in found:
            self.assertIsNone(told, asked)
            return
        self.assertIs(type(told), list, asked)
        self.assertIsNot(told, handed)
        self.assertTrue(all(type(place) is int for place in told), asked)
        self.assertEqual(told, sorted(set(told)), asked)
        self.assertEqual(len(told), count, asked)
        self.assertTrue(all(0 <= place < len(numbers) for place in told), asked)
        self.assertEqual(left_at(numbers, told, n), rest_of(wanted, n), asked)

    def test_written_out(self):
        # Questions with one answer, or with none.
        self.assertEqual(choose([3, -12, 0], 2, 5, 7), [0, 1])
        self.assertEqual(choose([3, -12, 0], 2, 3, 7), [0, 2])
        self.assertEqual(choose([3, -12, 0], 2, -5, 7), [1, 2])
        self.assertEqual(choose([3, -12, 0], 3, 12, 7), [0, 1, 2])
        self.assertEqual(choose([3, -12, 0], 1, 14, 7), [2])
        self.assertIsNone(choose([3, -12, 0], 2, 0, 7))
        self.assertIsNone(choose([3, -12, 0], 3, 4, 7))
        self.assertEqual(choose([5, 6], 2, 0, 1), [0, 1])
        self.assertEqual(choose([BOUND, -BOUND, 1], 1, BOUND, 24), [0])
        self.assertEqual(choose([BOUND, -BOUND, 1], 1, -BOUND, 24), [1])
        self.assertEqual(choose([BOUND, -BOUND, 1], 2, 0, 24), [0, 1])
        self.assertEqual(choose([1, 1, 1, 5], 4, 8, 24), [0, 1, 2, 3])

    def test_a_count_of_nought(self):
        for n in ROUNDS:
            for numbers in ([], [0], [1], [n - 1, 5], [-BOUND] * 60):
                for wanted in (0, n, -n, 10 ** 11 * n):
                    self.assertEqual(choose(numbers, 0, wanted, n), [])
                for wanted in range(1, n):
                    self.assertIsNone(choose(numbers, 0, wanted, n))

    def test_a_count_above_the_length(self):
        for n in ROUNDS:
            for numbers in ([], [0], [0] * 5, [n] * 59, scattered(30, n, -9, 9)):
                for count in range(len(numbers) + 1, 63):
                    self.assertIsNone(choose(numbers, count, 0, n))
                    self.assertIsNone(choose(numbers, count, 1, n))

    def test_a_count_below_nought(self):
        # No choice has fewer than no places.
        for n in ROUNDS:
            for numbers in ([], [0], [0, n, -n], [0] * 60):
                for count in (-1, -2, -len(numbers), -len(numbers) - 1, -60):
                    if count < 0:
                        self.assertIsNone(choose(numbers, count, 0, n))

    def test_short_lists_against_all_choices(self):
        for n in ROUNDS:
            for numbers in plain_lists(n) + scattered_lists(n):
                if len(numbers) > 9:
                    continue
                written = table_written_out(numbers, n)
                for count, found in enumerate(written + [[]]):
                    for rest in range(n):
                        for wanted in wanted_numbers(rest, n):
                            self.holds(numbers, count, wanted, n, found)

    def test_all_short_lists_of_small_rounds(self):
        for n in range(1, 5):
            for length in range(5):
                for numbers in itertools.product(range(n), repeat=length):
                    numbers = list(numbers)
                    for count in range(length + 2):
                        found = {left_at(numbers, places, n) for places in choices_of(numbers, count)}
                        for wanted in range(-1, n):
                            self.holds(numbers, count, wanted, n, found)

    def test_sixty_numbers_in_good_time(self):
        for n in ROUNDS:
            for numbers in long_lists(n):
                sets = table_of(numbers, n) + [[]]
                for count, found in enumerate(sets):
                    with in_good_time(20):
                        self.holds(numbers, count, 7 * count + 3, n, found)
                        self.holds(numbers, count, -count, n, found)

    def test_every_rest_of_sixty_numbers(self):
        for n in (1, 2, 7, 12, 24):
            for numbers in long_lists(n):
                sets = table_of(numbers, n)
                for count in (0, 1, 2, n, 30, 58, 59, 60):
                    for rest in range(n):
                        self.holds(numbers, count, wanted_numbers(rest, n)[rest % 4], n, sets[count])

    def test_every_length(self):
        for n in (1, 3, 8, 17, 24):
            for numbers in lists_of_each_length(n):
                sets = table_of(numbers, n) + [[]]
                for count in (0, 1, len(numbers) // 2, len(numbers) - 1, len(numbers), len(numbers) + 1):
                    if count >= 0:
                        self.holds(numbers, count, 0, n, sets[count])
                        self.holds(numbers, count, BOUND, n, sets[count])

    def test_lists_of_which_few_sums_leave_nought(self):
        for n in ROUNDS:
            for numbers in stubborn_lists(n):
                sets = table_of(numbers, n) + [[]]
                for count in {0, n - 1, n, len(numbers)}:
                    if count < len(sets):
                        self.holds(numbers, count, 0, n, sets[count])
                        self.holds(numbers, count, -1, n, sets[count])

    def test_none_just_where_the_tables_set_lacks_the_rest(self):
        for n in ROUNDS:
            for numbers in plain_lists(n):
                for count, found in enumerate(table(numbers, n)):
                    for wanted in range(n):
                        told = choose(numbers, count, wanted, n)
                        self.assertEqual(told is not None, wanted in found, (numbers, count, wanted, n))

    def test_somewhat_beyond_the_bounds(self):
        for n in ROUNDS:
            numbers = scattered(66, n, -BOUND - 99, BOUND + 99)
            sets = table_of(numbers, n) + [[]]
            for count in (0, 1, 60, 61, 65, 66, 67):
                for wanted in (BOUND + 1, -BOUND - 1):
                    self.holds(numbers, count, wanted, n, sets[count])

    def test_told_lists_are_the_askers_own(self):
        for n in ROUNDS:
            for numbers in ([], [0], [1, n - 1, 0, 5], scattered(60, n, -BOUND, BOUND)):
                sets = table_of(numbers, n)
                for count in {0, len(numbers) // 2, len(numbers)}:
                    wanted = sets[count][0]
                    first = choose(numbers, count, wanted, n)
                    first.append(99)
                    first.reverse()
                    self.assertIsNot(choose(numbers, count, wanted, n), first)
                    self.holds(numbers, count, wanted, n, sets[count])

    def test_the_handed_in_list_is_not_kept(self):
        handed = [1, 2, 3]
        told = choose(handed, 2, 5, 7)
        handed[1] = 4
        self.assertEqual(told, [1, 2])
        self.assertEqual(choose(handed, 2, 5, 7), [0, 1])
        handed.clear()
        self.assertEqual(told, [1, 2])
        self.assertIsNone(choose(handed, 2, 5, 7))


if __name__ == "__main__":
    unittest.main()
