import itertools
import unittest

from samples import BOUND, ROUNDS, choices_of, left_at, scattered, stubborn_lists, table_of
from sumrests.choices import barren, choose


class AlwaysOne(unittest.TestCase):
    """Twice the round less one numbers, or more: a choice of as many places as the round leaves nought."""

    def has_one(self, numbers, n):
        told = choose(numbers, n, 0, n)
        self.assertIsNotNone(told, (numbers, n))
        self.assertEqual(len(set(told)), n)
        self.assertEqual(left_at(numbers, told, n), 0)

    def lists(self, length, n):
        yield [1] * length
        yield [BOUND] * length
        yield [-BOUND, BOUND] * (length // 2) + [BOUND] * (length % 2)
        yield [0] * (n - 1) + [1] * (length - n + 1)
        yield list(range(length))
        yield [-k * k for k in range(length)]
        for seed in range(6):
            yield scattered(length, seed, -BOUND, BOUND)
            yield scattered(length, seed, 0, 1)
            yield scattered(length, seed, -2, 1)

    def test_every_round(self):
        for n in ROUNDS:
            for more in range(6):
                for numbers in self.lists(2 * n - 1 + more, n):
                    self.assertEqual(len(numbers), 2 * n - 1 + more)
                    self.has_one(numbers, n)

    def test_sixty_numbers(self):
        for n in ROUNDS:
            for numbers in stubborn_lists(n):
                if len(numbers) >= 2 * n - 1:
                    self.has_one(numbers, n)

    def test_all_lists_of_small_rounds(self):
        for n in range(1, 5):
            for numbers in itertools.combinations_with_replacement(range(n), 2 * n - 1):
                self.has_one(list(numbers), n)


class Barren(unittest.TestCase):
    def test_length_and_kinds(self):
        for n in ROUNDS:
            told = barren(n)
            self.assertIs(type(told), list)
            self.assertEqual(len(told), 2 * n - 2)
            for number in told:
                self.assertIs(type(number), int)
                self.assertTrue(-BOUND <= number <= BOUND)

    def test_the_round_one_has_the_empty_list(self):
        self.assertEqual(barren(1), [])

    def test_no_choice_of_it_leaves_nought(self):
        for n in ROUNDS:
            self.assertIsNone(choose(barren(n), n, 0, n))
            self.assertNotIn(0, (table_of(barren(n), n) + [[]])[n])

    def test_no_choice_of_it_leaves_nought_written_out(self):
        for n in range(1, 9):
            told = barren(n)
            for places in choices_of(told, n):
                self.assertNotEqual(left_at(told, places, n), 0, (n, places))

    def test_any_number_put_in_anywhere_makes_one(self):
        for n in ROUNDS:
            told = barren(n)
            for place in range(len(told) + 1):
                for number in [*range(n), -1, -BOUND, BOUND]:
                    numbers = told[:place] + [number] + told[place:]
                    chosen = choose(numbers, n, 0, n)
                    self.assertIsNotNone(chosen, (n, place, number))
                    self.assertEqual(left_at(numbers, chosen, n), 0)
                    self.assertEqual(len(set(chosen)), n)
                    self.assertIn(place, chosen)

    def test_told_lists_are_the_askers_own(self):
        for n in ROUNDS:
            first = barren(n)
            kept = list(first)
            first.append(99)
            first.reverse()
            second = barren(n)
            self.assertIsNot(second, first)
            self.assertEqual(second, kept)
            second.clear()
            self.assertEqual(barren(n), kept)


if __name__ == "__main__":
    unittest.main()
