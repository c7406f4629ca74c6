import itertools
import unittest

from selfruns.errors import BadText, NoLetters, NoRow
from selfruns.notes import read, shown
from selfruns.own import own

ALL_LETTERS = [(a, b) for a in range(1, 10) for b in range(a + 1, 10)]
TEXT_SIGNS = ["\t", "\n"] + [chr(code) for code in range(ord(" "), ord("~") + 1) if chr(code) != "%"]


class Shown(unittest.TestCase):
    def test_written_out(self):
        self.assertEqual(shown((1, 2), [1, 2, 2, 1, 1]), "12211")
        self.assertEqual(shown((3, 9), [9, 9, 3]), "993")
        self.assertEqual(shown((8, 9), [8]), "8")

    def test_the_row_without_signs(self):
        for letters in ALL_LETTERS:
            self.assertEqual(shown(letters, []), "")

    def test_400_signs(self):
        self.assertEqual(shown((1, 2), [1, 2] * 200), "12" * 200)

    def test_wrong_rows_are_refused(self):
        self.assertRaises(NoRow, shown, (1, 2), [1, 2] * 200 + [1])
        self.assertRaises(NoRow, shown, (1, 2), [1, 3])
        self.assertRaises(NoRow, shown, (1, 2), [12])


class Read(unittest.TestCase):
    def test_written_out(self):
        self.assertEqual(read((1, 2), "12211"), [1, 2, 2, 1, 1])
        self.assertEqual(read((3, 9), "993"), [9, 9, 3])

    def test_the_text_without_signs(self):
        for letters in ALL_LETTERS:
            self.assertEqual(read(letters, ""), [])

    def test_what_is_shown_is_read_to_the_same_row(self):
        for letters in ALL_LETTERS:
            for size in range(7):
                for signs in itertools.product(letters, repeat=size):
                    self.assertEqual(read(letters, shown(letters, list(signs))), list(signs))
            for sign in letters:
                row = own(letters, sign, 400)
                self.assertEqual(read(letters, shown(letters, row)), row)

    def test_what_is_read_is_shown_as_the_same_text(self):
        for text in ["", "1", "2", "2112", "12" * 200]:
            self.assertEqual(shown((1, 2), read((1, 2), text)), text)

    def test_every_other_sign_is_refused_wherever_it_stands(self):
        for letters in ALL_LETTERS:
            a, b = [str(sign) for sign in letters]
            for sign in TEXT_SIGNS:
                if sign not in (a, b):
                    for text in [sign, sign + a, a + sign, a + b + sign, a + sign + b, a * 399 + sign]:
                        with self.subTest(letters=letters, text=text):
                            self.assertRaises(BadText, read, letters, text)

    def test_texts_that_a_reader_of_numbers_would_take(self):
        for text in [" ", "\n", "\t", "1 2", " 12", "12 ", "12\n", "1\n2", "+1", "-1", "1_2", "1,2", "[1, 2]", "01", "3"]:
            with self.subTest(text=text):
                self.assertRaises(BadText, read, (1, 2), text)

    def test_the_letters_are_refused_ahead_of_the_text(self):
        for letters in [(2, 1), (1, 1), (0, 1), (9, 10)]:
            for text in ["", "1", "x", "10"]:
                self.assertRaises(NoLetters, read, letters, text)

    def test_nothing_is_refused_for_a_text_of_more_than_400_signs(self):
        self.assertEqual(read((1, 2), "12" * 200 + "1"), [1, 2] * 200 + [1])
        self.assertRaises(BadText, read, (1, 2), "12" * 200 + "x")


if __name__ == "__main__":
    unittest.main()
