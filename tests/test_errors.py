import unittest

from sumrests.errors import BadRound, BadText, RestError


class Errors(unittest.TestCase):
    def test_what_stands_under_what(self):
        self.assertTrue(issubclass(RestError, ValueError))
        self.assertEqual(BadRound.__bases__, (RestError,))
        self.assertEqual(BadText.__bases__, (RestError,))

    def test_neither_under_the_other(self):
        self.assertFalse(issubclass(BadRound, BadText))
        self.assertFalse(issubclass(BadText, BadRound))

    def test_each_is_taken_as_any_refusal(self):
        for kind in (BadRound, BadText):
            for taken in (kind, RestError, ValueError):
                with self.subTest(kind=kind, taken=taken):
                    with self.assertRaises(taken):
                        raise kind("some words")


if __name__ == "__main__":
    unittest.main()
