import unittest

from selfruns import errors

REFUSALS = [
    errors.NoLetters,
    errors.NoRow,
    errors.NoLengths,
    errors.NoSign,
    errors.TooMany,
    errors.BadText,
]


class ErrorClasses(unittest.TestCase):
    def test_run_error_is_a_value_error(self):
        self.assertEqual(errors.RunError.__bases__, (ValueError,))

    def test_each_refusal_is_a_run_error(self):
        for refusal in REFUSALS:
            with self.subTest(refusal=refusal.__name__):
                self.assertTrue(issubclass(refusal, errors.RunError))
                self.assertIsNot(refusal, errors.RunError)

    def test_none_stands_under_another_one(self):
        for lower in REFUSALS:
            for upper in REFUSALS:
                if lower.__name__ != upper.__name__:
                    with self.subTest(lower=lower.__name__, upper=upper.__name__):
                        self.assertFalse(issubclass(lower, upper))

    def test_the_names_are_those_of_the_classes(self):
        names = ["NoLetters", "NoRow", "NoLengths", "NoSign", "TooMany", "BadText"]
        self.assertEqual([refusal.__name__ for refusal in REFUSALS], names)

    def test_each_can_be_raised_with_words(self):
        for refusal in REFUSALS:
            with self.subTest(refusal=refusal.__name__):
                with self.assertRaises(errors.RunError) as taken:
                    raise refusal("some words")
                self.assertEqual(str(taken.exception), "some words")
