import itertools
import unittest

from selfruns.errors import NoLengths, NoLetters, NoRow, NoSign
from selfruns.rows import built, exchanged, lengths

ALL_LETTERS = [(a, b) for a in range(1, 10) for b in range(a + 1, 10)]
NO_LETTERS = [pair for pair in itertools.product(range(-2, 13), repeat=2) if pair not in ALL_LETTERS]
ROW_FUNCTIONS = [lengths, exchanged]


def rows_up_to(letters, many):
    for size in range(many + 1):
        for signs in itertools.product(letters, repeat=size):
            yield list(signs)


def lengths_by_groups(row):
    return [len(list(group)) for _, group in itertools.groupby(row)]


class Letters(unittest.TestCase):
    def test_every_right_pair_is_taken(self):
        self.assertEqual(len(ALL_LETTERS), 36)
        for a, b in ALL_LETTERS:
            with self.subTest(letters=(a, b)):
                self.assertEqual(lengths((a, b), [a, b, b]), [1, 2])
                self.assertEqual(exchanged((a, b), [a, b, b]), [b, a, a])
                self.assertEqual(built((a, b), a, [1, 2]), [a, b, b])
                self.assertEqual(built((a, b), b, [1, 2]), [b, a, a])

    def test_every_other_pair_is_refused(self):
        for edge in [(0, 1), (0, 9), (1, 10), (9, 10), (1, 1), (9, 9), (2, 1), (9, 1), (0, 10), (-1, 1)]:
            self.assertIn(edge, NO_LETTERS)
        for letters in NO_LETTERS:
            with self.subTest(letters=letters):
                for function in ROW_FUNCTIONS:
                    self.assertRaises(NoLetters, function, letters, [])
                    self.assertRaises(NoLetters, function, letters, list(letters))
                self.assertRaises(NoLetters, built, letters, letters[0], [])
                self.assertRaises(NoLetters, built, letters, letters[1], [1, 2])

    def test_refused_ahead_of_every_other_refusal(self):
        for letters in NO_LETTERS:
            with self.subTest(letters=letters):
                for function in ROW_FUNCTIONS:
                    self.assertRaises(NoLetters, function, letters, [99])
                    self.assertRaises(NoLetters, function, letters, [letters[0]] * 401)
                self.assertRaises(NoLetters, built, letters, 99, [1])
                self.assertRaises(NoLetters, built, letters, letters[0], [0])
                self.assertRaises(NoLetters, built, letters, 99, [10] * 61)


class Rows(unittest.TestCase):
    def test_no_signs_one_sign_and_400_signs_are_taken(self):
        self.assertEqual(lengths((1, 2), []), [])
        self.assertEqual(exchanged((1, 2), []), [])
        self.assertEqual(lengths((1, 2), [2]), [1])
        self.assertEqual(exchanged((1, 2), [2]), [1])
        self.assertEqual(lengths((1, 2), [1] * 400), [400])
        self.assertEqual(lengths((1, 2), [1, 2] * 200), [1] * 400)
        self.assertEqual(exchanged((1, 2), [1, 2] * 200), [2, 1] * 200)

    def test_401_signs_are_refused(self):
        for function in ROW_FUNCTIONS:
            self.assertRaises(NoRow, function, (1, 2), [1] * 401)
            self.assertRaises(NoRow, function, (1, 2), [1, 2] * 200 + [1])
            self.assertRaises(NoRow, function, (1, 2), [2] * 1000)

    def test_another_number_is_refused_wherever_it_stands(self):
        for function in ROW_FUNCTIONS:
            for other in [-3, 0, 1, 2, 4, 6, 8, 10, 35]:
                with self.subTest(function=function.__name__, other=other):
                    self.assertRaises(NoRow, function, (3, 5), [other])
                    self.assertRaises(NoRow, function, (3, 5), [other, 3, 5])
                    self.assertRaises(NoRow, function, (3, 5), [3, other, 5])
                    self.assertRaises(NoRow, function, (3, 5), [3, 5, other])
            self.assertRaises(NoRow, function, (3, 5), [3] * 399 + [4])


class Lengths(unittest.TestCase):
    def test_written_out(self):
        self.assertEqual(lengths((1, 2), [1, 2, 2, 1, 1]), [1, 2, 2])
        self.assertEqual(lengths((1, 2), [2, 2, 1, 1, 2, 1]), [2, 2, 1, 1])
        self.assertEqual(lengths((1, 3), [3, 3, 3, 1, 1, 1, 3, 1]), [3, 3, 1, 1])
        self.assertEqual(lengths((8, 9), [9] * 12), [12])

    def test_all_short_rows(self):
        for letters in [(1, 2), (2, 9)]:
            for row in rows_up_to(letters, 8):
                self.assertEqual(lengths(letters, row), lengths_by_groups(row), (letters, row))


class Exchanged(unittest.TestCase):
    def test_written_out(self):
        self.assertEqual(exchanged((1, 2), [1, 2, 2, 1, 1]), [2, 1, 1, 2, 2])
        self.assertEqual(exchanged((4, 7), [7, 7, 4]), [4, 4, 7])

    def test_all_short_rows(self):
        for a, b in [(1, 2), (3, 9)]:
            for row in rows_up_to((a, b), 8):
                told = exchanged((a, b), row)
                self.assertEqual(told, [{a: b, b: a}[sign] for sign in row])
                self.assertEqual(exchanged((a, b), told), row)


class Built(unittest.TestCase):
    def test_written_out(self):
        self.assertEqual(built((1, 2), 1, [1, 2, 3]), [1, 2, 2, 1, 1, 1])
        self.assertEqual(built((1, 2), 2, [1, 2, 3]), [2, 1, 1, 2, 2, 2])
        self.assertEqual(built((3, 8), 8, [2, 1, 1, 4]), [8, 8, 3, 8, 3, 3, 3, 3])
        self.assertEqual(built((1, 2), 2, [9]), [2] * 9)

    def test_no_lengths(self):
        self.assertEqual(built((1, 2), 1, []), [])
        self.assertEqual(built((1, 2), 2, []), [])

    def test_sixty_lengths(self):
        self.assertEqual(built((1, 2), 1, [1] * 60), [1, 2] * 30)
        self.assertEqual(built((2, 5), 5, [6] * 60), ([5] * 6 + [2] * 6) * 30)

    def test_sixty_lengths_of_nine_are_more_signs_than_a_row_may_hand_in(self):
        self.assertEqual(built((1, 2), 2, [9] * 60), ([2] * 9 + [1] * 9) * 30)

    def test_its_lengths_are_those(self):
        for sign in (2, 3):
            for size in range(5):
                for some in itertools.product([1, 2, 3, 8, 9], repeat=size):
                    row = built((2, 3), sign, list(some))
                    self.assertEqual(lengths((2, 3), row), list(some))
                    self.assertEqual(row[:1], [sign][:size])

    def test_built_anew_on_the_lengths_of_a_row(self):
        for row in rows_up_to((1, 4), 8):
            if row:
                self.assertEqual(built((1, 4), row[0], lengths((1, 4), row)), row)

    def test_a_sign_that_is_neither_is_refused(self):
        for sign in [-3, 0, 1, 2, 4, 6, 9, 10]:
            with self.subTest(sign=sign):
                self.assertRaises(NoSign, built, (3, 5), sign, [1, 2])
                self.assertRaises(NoSign, built, (3, 5), sign, [])

    def test_a_sign_is_refused_ahead_of_the_lengths(self):
        for some in [[0], [10], [1] * 61, [0] * 61]:
            with self.subTest(some=some):
                self.assertRaises(NoSign, built, (3, 5), 4, some)

    def test_wrong_lengths_are_refused(self):
        for length in [-1, 0, 10, 11, 400]:
            with self.subTest(length=length):
                self.assertRaises(NoLengths, built, (1, 2), 1, [length])
                self.assertRaises(NoLengths, built, (1, 2), 2, [length, 1, 2])
                self.assertRaises(NoLengths, built, (1, 2), 1, [1, length, 2])
                self.assertRaises(NoLengths, built, (1, 2), 2, [1, 2, length])

    def test_every_number_from_1_to_9_is_taken_beside_any_letters(self):
        for letters in ALL_LETTERS:
            for length in range(1, 10):
                self.assertEqual(built(letters, letters[1], [length]), [letters[1]] * length)

    def test_more_than_sixty_lengths_are_refused(self):
        self.assertRaises(NoLengths, built, (1, 2), 1, [1] * 61)
        self.assertRaises(NoLengths, built, (1, 2), 2, [1] * 100)


class HandedInAndTold(unittest.TestCase):
    def test_what_is_handed_in_stays_as_it_was(self):
        row = [1, 2, 2, 1]
        lengths((1, 2), row)
        exchanged((1, 2), row)
        self.assertEqual(row, [1, 2, 2, 1])
        some = [3, 1, 2]
        built((1, 2), 2, some)
        self.assertEqual(some, [3, 1, 2])

    def test_it_stays_so_where_it_is_refused(self):
        row = [1, 2, 3]
        for function in ROW_FUNCTIONS:
            self.assertRaises(NoRow, function, (1, 2), row)
        self.assertEqual(row, [1, 2, 3])
        some = [1, 10]
        self.assertRaises(NoLengths, built, (1, 2), 1, some)
        self.assertEqual(some, [1, 10])

    def test_what_is_told_may_be_changed(self):
        calls = [
            (lengths, ((1, 2), []), []),
            (lengths, ((1, 2), [1, 2, 2]), [1, 2]),
            (exchanged, ((1, 2), []), []),
            (exchanged, ((1, 2), [1, 2, 2]), [2, 1, 1]),
            (built, ((1, 2), 1, []), []),
            (built, ((1, 2), 1, [1, 2]), [1, 2, 2]),
        ]
        for function, handed, asked in calls:
            with self.subTest(function=function.__name__, handed=handed):
                first = function(*handed)
                second = function(*handed)
                self.assertIsInstance(first, list)
                self.assertIsNot(first, second)
                self.assertIsNot(first, handed[-1])
                first.append(7)
                self.assertEqual(second, asked)
                self.assertEqual(function(*handed), asked)

    def test_nothing_hangs_on_what_was_handed_in(self):
        row = [1, 2, 2]
        told_lengths = lengths((1, 2), row)
        told_exchanged = exchanged((1, 2), row)
        row.clear()
        self.assertEqual(told_lengths, [1, 2])
        self.assertEqual(told_exchanged, [2, 1, 1])
        self.assertEqual(lengths((1, 2), row), [])
        some = [2, 1]
        told_built = built((1, 2), 1, some)
        some[0] = 5
        self.assertEqual(told_built, [1, 1, 2])
        self.assertEqual(built((1, 2), 1, some), [1, 1, 1, 1, 1, 2])


if __name__ == "__main__":
    unittest.main()
