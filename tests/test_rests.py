import unittest

from samples import BOUND, ROUNDS, all_lists, rest_of, same_set_lists, scattered, set_of, subsets
from sumrests.sets import rests


class Rests(unittest.TestCase):
    def test_written_out(self):
        self.assertEqual(rests([], 7), [])
        self.assertEqual(rests([3, -12, 0], 7), [0, 2, 3])
        self.assertEqual(rests([-1, -7, -8, 6], 7), [0, 6])
        self.assertEqual(rests([10, 10, 3, 17], 7), [3])
        self.assertEqual(rests([23, 24, 25, -1, -24], 24), [0, 1, 23])
        self.assertEqual(rests([-5, 0, 9], 1), [0])
        self.assertEqual(rests([BOUND, -BOUND], 7), [1, 6])
        self.assertEqual(rests([BOUND, -BOUND], 24), [8, 16])

    def test_the_measure_keeps_to_the_documents_words(self):
        for n in ROUNDS:
            for number in list(range(-60, 61)) + [-BOUND, BOUND, 1 - BOUND, BOUND - 1]:
                rest = rest_of(number, n)
                self.assertIn(rest, range(n))
                self.assertEqual(abs(number - rest) % n, 0)

    def test_every_single_number(self):
        for n in ROUNDS:
            for number in list(range(-60, 61)) + [-BOUND, BOUND, 1 - BOUND, BOUND - 1]:
                self.assertEqual(rests([number], n), [rest_of(number, n)], (number, n))

    def test_every_round(self):
        for n in ROUNDS:
            for numbers in all_lists(n):
                with self.subTest(n=n, numbers=numbers):
                    told = rests(numbers, n)
                    self.assertIs(type(told), list)
                    self.assertTrue(all(type(rest) is int for rest in told))
                    self.assertEqual(told, set_of(numbers, n))
                    self.assertTrue(all(a < b for a, b in zip(told, told[1:])))

    def test_a_set_is_its_own_set(self):
        for n in range(1, 9):
            for numbers in subsets(n):
                self.assertEqual(rests(numbers, n), numbers)
                self.assertEqual(rests(numbers[::-1], n), numbers)

    def test_the_same_set_is_told_alike(self):
        for n in ROUNDS:
            for numbers in all_lists(n):
                for other in same_set_lists(numbers, n):
                    self.assertEqual(rests(other, n), rests(numbers, n), (numbers, other, n))

    def test_somewhat_beyond_the_bounds(self):
        for n in ROUNDS:
            numbers = scattered(75, n, -BOUND - 99, BOUND + 99) + [BOUND + 1, -BOUND - 1]
            self.assertEqual(rests(numbers, n), set_of(numbers, n))

    def test_the_handed_in_list_is_left_as_it_was(self):
        for n in ROUNDS:
            for numbers in all_lists(n):
                handed = list(numbers)
                rests(handed, n)
                self.assertEqual(handed, numbers)

    def test_told_lists_are_the_askers_own(self):
        for n in ROUNDS:
            for numbers in all_lists(n):
                handed = list(numbers)
                first = rests(handed, n)
                self.assertIsNot(first, handed)
                first.append(99)
                first.reverse()
                second = rests(handed, n)
                self.assertIsNot(second, first)
                self.assertEqual(second, set_of(numbers, n))

    def test_the_handed_in_list_is_not_kept(self):
        for n in ROUNDS:
            for numbers in all_lists(n):
                handed = list(numbers)
                told = rests(handed, n)
                handed.append(1)
                self.assertEqual(told, set_of(numbers, n))
                self.assertEqual(rests(handed, n), set_of(numbers + [1], n))
                handed.clear()
                self.assertEqual(told, set_of(numbers, n))
                self.assertEqual(rests(handed, n), [])


if __name__ == "__main__":
    unittest.main()
