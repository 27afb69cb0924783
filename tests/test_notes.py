import re
import unittest

from samples import BOUND, NO_ROUNDS, ROUNDS, all_lists, lists_of_each_length, scattered
from sumrests.errors import BadText
from sumrests.notes import read, shown

SIGNS = ["\t", "\n"] + [chr(code) for code in range(ord(" "), ord("~") + 1)]
GOOD = ["7: 3 -12 0", "7:", "1:", "24: 0", "10: 10 -10 100", "2: 1000000000000 -1000000000000 0 -1"]
FORM = re.compile(r"([1-9][0-9]?):((?: (?:0|-?[1-9][0-9]{0,12}))*)")


def meant_by(text):
    """What a text must be read to, or None where it must be refused."""
    found = FORM.fullmatch(text)
    if not found:
        return None
    n = int(found[1])
    numbers = [int(word) for word in found[2].split()]
    if n > 24 or len(numbers) > 60 or any(abs(number) > BOUND for number in numbers):
        return None
    return (numbers, n)


class Shown(unittest.TestCase):
    def test_written_out(self):
        self.assertEqual(shown([3, -12, 0], 7), "7: 3 -12 0")
        self.assertEqual(shown([], 7), "7:")
        self.assertEqual(shown([], 1), "1:")
        self.assertEqual(shown([0], 24), "24: 0")
        self.assertEqual(shown([5, 5, -1], 10), "10: 5 5 -1")
        self.assertEqual(shown([BOUND, -BOUND], 2), "2: 1000000000000 -1000000000000")

    def test_the_form(self):
        for n in ROUNDS:
            for numbers in all_lists(n):
                told = shown(numbers, n)
                self.assertIs(type(told), str)
                self.assertEqual(told, " ".join([str(n) + ":"] + [str(number) for number in numbers]))
                self.assertTrue(FORM.fullmatch(told))

    def test_somewhat_beyond_the_bounds(self):
        self.assertEqual(shown([BOUND + 1, -BOUND - 1], 3), "3: 1000000000001 -1000000000001")
        self.assertEqual(shown([1] * 62, 3), "3:" + " 1" * 62)

    def test_the_list_is_left_as_it_was(self):
        for numbers in all_lists(9):
            handed = list(numbers)
            shown(handed, 9)
            self.assertEqual(handed, numbers)


class Read(unittest.TestCase):
    def refused(self, text):
        with self.assertRaises(BadText, msg=repr(text)) as taken:
            read(text)
        self.assertIs(type(taken.exception), BadText)

    def read_as_meant(self, text):
        meant = meant_by(text)
        if meant is None:
            self.refused(text)
        else:
            self.assertEqual(read(text), meant, repr(text))

    def test_written_out(self):
        self.assertEqual(read("7: 3 -12 0"), ([3, -12, 0], 7))
        self.assertEqual(read("7:"), ([], 7))
        self.assertEqual(read("1:"), ([], 1))
        self.assertEqual(read("24: 0 0"), ([0, 0], 24))
        self.assertEqual(read("10: 100 -100 10"), ([100, -100, 10], 10))
        self.assertEqual(read("2: 1000000000000 -1000000000000"), ([BOUND, -BOUND], 2))

    def test_kinds(self):
        for text in GOOD:
            told = read(text)
            self.assertIs(type(told), tuple)
            self.assertEqual([type(part) for part in told], [list, int])
            self.assertTrue(all(type(number) is int for number in told[0]))

    def test_what_is_written_is_read_to_the_same(self):
        for n in ROUNDS:
            for numbers in all_lists(n) + lists_of_each_length(n):
                self.assertEqual(read(shown(numbers, n)), (numbers, n))

    def test_what_is_read_is_written_to_the_same(self):
        for text in GOOD:
            self.assertEqual(shown(*read(text)), text)

    def test_a_round_that_is_none(self):
        for word in ["0", "25", "26", "99", "100", "240", "-1", "-7", "-24", "-0", "+7", "07", "007", "00", "", "-"]:
            self.refused(f"{word}:")
            self.refused(f"{word}: 1 2")
        for n in NO_ROUNDS:
            if abs(n) < 10 ** 40:
                self.refused(shown([1, 2], n))
        for word in ["a", "7a", "1_0", "7.0", "7 ", " 7", "7\t", "\n7", "1 0", "x7", "0x7", "1e1", "(7)"]:
            self.refused(f"{word}: 1 2")

    def test_a_number_out_of_its_bounds(self):
        for number in [BOUND + 1, BOUND + 7, 2 * BOUND, 10 * BOUND - 1, 10 * BOUND, 10 ** 30, 10 ** 200]:
            for sign in ("", "-"):
                self.refused(f"7: {sign}{number}")
                self.refused(f"7: 1 {sign}{number} 2")
        for number in [BOUND, BOUND - 1, 999999999999]:
            self.assertEqual(read(f"7: {number} -{number}"), ([number, -number], 7))

    def test_needless_noughts_and_nought_below_nought(self):
        for word in ["-0", "00", "-00", "000", "01", "-01", "007", "00000000000000000001", "-0000000000000"]:
            self.refused(f"7: {word}")
            self.refused(f"7: 1 {word}")
            self.refused(f"7: {word} 1")

    def test_more_than_sixty_numbers(self):
        self.assertEqual(read("7:" + " 0" * 60), ([0] * 60, 7))
        self.assertEqual(read("7:" + f" -{BOUND}" * 60), ([-BOUND] * 60, 7))
        for length in (61, 62, 75, 120, 400):
            self.refused("7:" + " 0" * length)
            self.refused(shown(scattered(length, length, -BOUND, BOUND), 7))

    def test_blanks_more_or_less(self):
        for text in ["7 :", " 7:", "7: ", "7:  ", "7:3", "7:3 4", "7: 3 ", "7:  3", "7: 3  4", "7: 3 -12 0 ", "7 : 3",
                     "7: - 3", "7: 3- 4", "7: 3-4", " ", "  ", "7", "7 3", "7 3 4", " : 3"]:
            self.refused(text)

    def test_tabs_and_line_ends(self):
        for text in GOOD:
            for sign in ("\t", "\n", "\r"):
                for place in range(len(text) + 1):
                    self.refused(text[:place] + sign + text[place:])
                    if place < len(text):
                        self.refused(text[:place] + sign + text[place + 1:])

    def test_other_signs(self):
        for word in ["+3", "3.", "3.0", "3e2", "1_000", "0x3", "0b1", "a", "3a", "a3", "--3", "-", "---", "3-", "3,",
                     "'3'", "(3)", "[3]", "None", "True", "1/2", "~3", "1:2", ":", "\u0663", "\u00b2", "\uff13"]:
            self.refused(f"7: {word}")
            self.refused(f"7: 1 {word}")
            self.refused(f"7: {word} 1")
        for text in ["", ":", "::", "7::", ":7", "7: 3:", "7: 3: 4", "7; 3", "7, 3", "abc", "~", "-", "7\u00a03"]:
            self.refused(text)

    def test_two_texts_in_one(self):
        for text in GOOD:
            for between in ("", " ", "\n", ":", ","):
                self.refused(text + between + text)

    def test_a_sign_left_out_at_each_place(self):
        for text in GOOD:
            for place in range(len(text)):
                self.read_as_meant(text[:place] + text[place + 1:])

    def test_a_sign_put_in_at_each_place(self):
        for text in GOOD:
            for place in range(len(text) + 1):
                for sign in SIGNS:
                    self.read_as_meant(text[:place] + sign + text[place:])

    def test_a_sign_exchanged_at_each_place(self):
        for text in GOOD:
            for place in range(len(text)):
                for sign in SIGNS:
                    self.read_as_meant(text[:place] + sign + text[place + 1:])
            for place in range(len(text) - 1):
                self.read_as_meant(text[:place] + text[place + 1] + text[place] + text[place + 2:])

    def test_texts_of_any_signs(self):
        signs = "0123456789  -:\t\nx"
        for seed in range(20000):
            picked = scattered(1 + seed % 9, seed, 0, len(signs) - 1)
            text = "".join(signs[k] for k in picked)
            self.read_as_meant(text)
            self.read_as_meant("7:" + text)

    def test_many_figures(self):
        for length in (14, 100, 300, 900, 998, 1100, 5000):
            for figure in "0159":
                for word in (figure * length, "-" + figure * length):
                    for text in (word, f"{word}:", f"{word}: 1", f"7: {word}", f"7: 1 {word} 2", f"7:{word}"):
                        self.refused(text)

    def test_many_signs(self):
        for sign in SIGNS:
            for length in (100, 1000, 1100):
                self.refused(sign * length)
                self.refused("7:" + sign * length)
                self.refused("7: 1" + sign * length)
                self.refused(sign * length + "7: 1")

    def test_told_lists_are_the_askers_own(self):
        for text in GOOD:
            first = read(text)
            kept = list(first[0])
            first[0].append(99)
            second = read(text)
            self.assertIsNot(second[0], first[0])
            self.assertEqual(second[0], kept)


if __name__ == "__main__":
    unittest.main()
