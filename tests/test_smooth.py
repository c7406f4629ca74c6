import itertools
import unittest

from selfruns.errors import NoLetters, NoRow, TooMany
from selfruns.own import own
from selfruns.rows import built, exchanged
from selfruns.smooth import all_smooth, goes_on, height, inner

ALL_LETTERS = [(a, b) for a in range(1, 10) for b in range(a + 1, 10)]
SOME_LETTERS = [(1, 2), (1, 3), (2, 3), (2, 4), (3, 4), (1, 9), (4, 9), (8, 9)]


def rows_up_to(letters, many):
    for size in range(many + 1):
        for signs in itertools.product(letters, repeat=size):
            yield list(signs)


def rows_of_lengths(letters, most):
    for size in range(most + 1):
        for some in itertools.product(range(1, 10), repeat=size):
            yield list(some), built(letters, letters[0], list(some))


def inner_by_groups(letters, row):
    some = [len(list(group)) for _, group in itertools.groupby(row)]
    a, b = letters
    ends = (0, len(some) - 1)
    for number, length in enumerate(some):
        if length > b or (number not in ends and length != a and length != b):
            return None
    return [length for number, length in enumerate(some) if number not in ends or length == b]


def height_by_groups(letters, row):
    if not row:
        return 0
    within = inner_by_groups(letters, row)
    below = None if within is None else height_by_groups(letters, within)
    return None if below is None else below + 1


def is_smooth(letters, row):
    return height_by_groups(letters, row) is not None


# Built over and over, by turns from other signs, these are smooth rows that no own row begins with.
def built_over(letters, turns, many):
    row = [letters[1]]
    for turn in itertools.cycle(turns):
        if len(row) >= many:
            return row[:many]
        signs = itertools.cycle([letters[turn], letters[1 - turn]])
        row = [sign for sign, length in zip(signs, row) for _ in range(length)]


def long_rows(letters):
    own_rows = [own(letters, sign, 400) for sign in letters]
    return own_rows + [built_over(letters, turns, 400) for turns in [(0, 1), (1, 0, 0), (1, 1, 0, 1)]]


# A row without its first signs, and with its last ones exchanged, is smooth or not and goes on or not in many ways.
def rows_near(letters, row, many):
    for begin in range(400 - many + 1):
        piece = row[begin:begin + many]
        for back in range(4):
            yield piece[:many - back] + exchanged(letters, piece[many - back:])


class Inner(unittest.TestCase):
    def test_the_row_without_signs(self):
        for letters in ALL_LETTERS:
            self.assertEqual(inner(letters, []), [])

    def test_a_row_of_one_run(self):
        for a, b in ALL_LETTERS:
            for sign in (a, b):
                for length in range(1, b):
                    self.assertEqual(inner((a, b), [sign] * length), [])
                self.assertEqual(inner((a, b), [sign] * b), [b])
                for length in [b + 1, 2 * b, 400]:
                    self.assertIsNone(inner((a, b), [sign] * length))

    def test_a_row_of_two_runs(self):
        for a, b in ALL_LETTERS:
            for first in range(1, b + 2):
                for last in range(1, b + 2):
                    asked = [length for length in (first, last) if length == b]
                    if b + 1 in (first, last):
                        asked = None
                    self.assertEqual(inner((a, b), [a] * first + [b] * last), asked, (a, b, first, last))

    def test_the_first_and_the_last_run(self):
        self.assertEqual(inner((1, 2), [1, 2, 2, 1]), [2])
        self.assertEqual(inner((1, 2), [1, 1, 2, 1]), [2, 1])
        self.assertEqual(inner((1, 2), [1, 2, 1, 1]), [1, 2])
        self.assertEqual(inner((1, 2), [1, 1, 2, 1, 1]), [2, 1, 2])
        self.assertEqual(inner((2, 4), built((2, 4), 2, [3, 2, 4, 1])), [2, 4])
        self.assertEqual(inner((2, 4), built((2, 4), 4, [4, 2, 2, 4])), [4, 2, 2, 4])
        self.assertEqual(inner((2, 4), built((2, 4), 4, [2, 2, 2, 2])), [2, 2])

    def test_a_run_between_that_is_neither_long(self):
        self.assertIsNone(inner((2, 4), [4, 2, 4]))
        self.assertIsNone(inner((2, 4), [4, 2, 2, 2, 4]))
        self.assertIsNone(inner((1, 3), [3, 1, 1, 3]))
        self.assertIsNone(inner((1, 3), [3, 1, 3, 3, 1, 3]))
        self.assertIsNone(inner((1, 2), [1, 2, 2, 2, 1]))
        self.assertIsNone(inner((8, 9), [8] + [9] * 7 + [8]))

    def test_a_run_longer_than_the_greater_sign(self):
        self.assertIsNone(inner((1, 2), [1, 1, 1]))
        self.assertIsNone(inner((1, 2), [1, 1, 1, 2]))
        self.assertIsNone(inner((1, 2), [2, 1, 1, 1]))
        self.assertIsNone(inner((1, 2), [2, 1, 1, 1, 2]))
        self.assertIsNone(inner((8, 9), [8] + [9] * 10))
        self.assertIsNone(inner((8, 9), [9] * 10 + [8]))

    def test_all_short_rows(self):
        for letters in SOME_LETTERS:
            for row in rows_up_to(letters, 9):
                self.assertEqual(inner(letters, row), inner_by_groups(letters, row), (letters, row))

    def test_rows_of_a_few_runs(self):
        for letters in SOME_LETTERS:
            for some, row in rows_of_lengths(letters, 3):
                self.assertEqual(inner(letters, row), inner_by_groups(letters, row), (letters, some))

    def test_rows_of_400_signs(self):
        self.assertEqual(inner((1, 2), [1, 2] * 200), [1] * 398)
        self.assertEqual(inner((1, 2), [1, 1, 2, 2] * 100), [2] * 200)
        self.assertIsNone(inner((2, 3), [2, 3] * 200))
        for letters in ALL_LETTERS:
            for row in long_rows(letters):
                self.assertEqual(inner(letters, row), inner_by_groups(letters, row))


class Height(unittest.TestCase):
    def test_written_out(self):
        told = [
            ((1, 2), [], 0),
            ((1, 2), [1], 1),
            ((1, 2), [1, 2], 1),
            ((1, 2), [2, 2], 2),
            ((1, 2), [1, 2, 1], 2),
            ((1, 2), [1, 1, 2, 2], 3),
            ((1, 2), [1, 1, 2, 1, 1], 3),
            ((1, 3), [1, 1], 1),
            ((1, 3), [1, 1, 1], 2),
            ((2, 3), [3, 3, 2, 2, 3, 3], 2),
            ((2, 3), [3, 3, 3, 2, 2, 2, 3, 3, 3], 3),
        ]
        for letters, row, asked in told:
            with self.subTest(letters=letters, row=row):
                self.assertEqual(height(letters, row), asked)

    def test_nought_for_the_row_without_signs_alone(self):
        for letters in ALL_LETTERS:
            self.assertEqual(height(letters, []), 0)
            self.assertEqual(height(letters, [letters[0]]), 1)
            self.assertEqual(height(letters, [letters[1]]), 1)

    def test_none_where_the_row_does_not_fit(self):
        self.assertIsNone(height((1, 2), [1, 1, 1]))
        self.assertIsNone(height((2, 4), [4, 2, 4]))
        self.assertIsNone(height((1, 2), [2] * 400))

    def test_none_where_only_the_inner_lengths_fail(self):
        row = [1, 2, 1, 2, 1]
        self.assertEqual(inner((1, 2), row), [1, 1, 1])
        self.assertIsNone(height((1, 2), row))
        row = [2, 2, 2, 3, 3, 2, 2, 2]
        self.assertEqual(inner((2, 3), row), [3, 2, 3])
        self.assertIsNone(height((2, 3), row))
        self.assertIsNone(height((1, 2), [1, 2] * 200))

    def test_none_where_only_the_inner_lengths_of_the_inner_lengths_fail(self):
        row = [2, 1, 2, 2, 1, 2, 2, 1, 2]
        self.assertEqual(inner((1, 2), row), [1, 2, 1, 2, 1])
        self.assertEqual(inner((1, 2), [1, 2, 1, 2, 1]), [1, 1, 1])
        self.assertIsNone(inner((1, 2), [1, 1, 1]))
        self.assertIsNone(height((1, 2), row))

    def test_all_short_rows(self):
        for letters in SOME_LETTERS:
            for row in rows_up_to(letters, 9):
                self.assertEqual(height(letters, row), height_by_groups(letters, row), (letters, row))

    def test_rows_of_a_few_runs(self):
        for letters in SOME_LETTERS:
            for some, row in rows_of_lengths(letters, 3):
                self.assertEqual(height(letters, row), height_by_groups(letters, row), (letters, some))

    def test_rows_of_400_signs(self):
        self.assertEqual(height((1, 2), own((1, 2), 1, 400)), 13)
        for letters in ALL_LETTERS:
            for row in long_rows(letters):
                told = height(letters, row)
                self.assertIsNotNone(told)
                self.assertEqual(told, height_by_groups(letters, row))


class WhatIsSmoothToo(unittest.TestCase):
    def short_rows(self):
        for letters in SOME_LETTERS:
            for many in (0, 1, 5, 8, 10):
                for row in all_smooth(letters, many):
                    yield letters, row

    def assert_smooth(self, letters, row):
        self.assertIsNotNone(height(letters, row), (letters, row))

    def test_each_piece(self):
        for letters, row in self.short_rows():
            for begin in range(len(row) + 1):
                for end in range(begin, len(row) + 1):
                    self.assert_smooth(letters, row[begin:end])

    def test_pieces_of_long_rows(self):
        for letters in SOME_LETTERS:
            for row in long_rows(letters):
                for place in range(0, 401, 7):
                    self.assert_smooth(letters, row[place:])
                    self.assert_smooth(letters, row[:place])
                    self.assert_smooth(letters, row[place:place + 57])

    def test_each_piece_of_an_own_row(self):
        for letters in [(1, 2), (2, 3), (1, 4)]:
            for sign in letters:
                row = own(letters, sign, 400)
                for begin in range(400):
                    self.assert_smooth(letters, row[begin:])
                    self.assert_smooth(letters, row[:begin])
                for begin in range(60):
                    for end in range(begin, 60):
                        self.assert_smooth(letters, row[begin:end])

    def test_own_rows_of_all_letters(self):
        for letters in ALL_LETTERS:
            for sign in letters:
                for many in [1, 10, 100, 398, 399, 400]:
                    self.assert_smooth(letters, own(letters, sign, many))

    def test_read_from_its_end(self):
        for letters, row in self.short_rows():
            self.assertEqual(height(letters, row[::-1]), height(letters, row))
        for letters in ALL_LETTERS:
            for row in long_rows(letters):
                self.assertEqual(height(letters, row[::-1]), height(letters, row))

    def test_with_its_signs_exchanged(self):
        for letters, row in self.short_rows():
            self.assertEqual(height(letters, exchanged(letters, row)), height(letters, row))
        for letters in ALL_LETTERS:
            for row in long_rows(letters):
                self.assertEqual(height(letters, exchanged(letters, row)), height(letters, row))

    def test_built_on_a_smooth_row(self):
        for letters, row in self.short_rows():
            for sign in letters:
                self.assert_smooth(letters, built(letters, sign, row))
        for letters in ALL_LETTERS:
            for row in long_rows(letters):
                for sign in letters:
                    self.assert_smooth(letters, built(letters, sign, row[:44]))

    def test_built_with_ends_of_the_greater_length_it_is_one_higher(self):
        for letters, row in self.short_rows():
            if row and row[0] == row[-1] == letters[1]:
                self.assertEqual(height(letters, built(letters, row[0], row)), height(letters, row) + 1)


class GoesOn(unittest.TestCase):
    def test_written_out(self):
        told = [
            ((1, 2), [], [1, 2]),
            ((1, 2), [1], [1, 2]),
            ((1, 2), [1, 1], [2]),
            ((1, 2), [2, 2], [1]),
            ((1, 2), [1, 2, 1], [1, 2]),
            ((1, 2), [1, 2, 1, 2], [2]),
            ((2, 3), [2, 3], [3]),
            ((2, 3), [3, 2, 2], [2, 3]),
            ((8, 9), [9] * 9, [8]),
        ]
        for letters, row, asked in told:
            with self.subTest(letters=letters, row=row):
                self.assertEqual(goes_on(letters, row), asked)

    def test_none_where_the_row_is_not_smooth(self):
        self.assertEqual(goes_on((1, 2), [1, 1, 1]), [])
        self.assertEqual(goes_on((1, 2), [1, 2, 1, 2, 1]), [])
        self.assertEqual(goes_on((2, 3), [2, 3, 2]), [])
        self.assertEqual(goes_on((1, 2), [1] * 399), [])
        self.assertEqual(goes_on((1, 2), [1] * 400), [])
        self.assertEqual(goes_on((1, 2), [1, 2] * 200), [])

    def test_all_short_rows(self):
        for letters in SOME_LETTERS:
            for row in rows_up_to(letters, 9):
                asked = [sign for sign in letters if is_smooth(letters, row) and is_smooth(letters, row + [sign])]
                self.assertEqual(goes_on(letters, row), asked, (letters, row))

    def test_a_smooth_row_that_goes_on_with_neither(self):
        told = [
            ((1, 3), [1, 1, 1, 3, 1, 3, 3]),
            ((1, 4), [1, 1, 1, 1, 4, 1, 4, 4, 4]),
            ((2, 4), [2, 2, 2, 2, 4, 4, 2, 2, 2]),
        ]
        for letters, row in told:
            with self.subTest(letters=letters):
                self.assertIsNotNone(height(letters, row))
                self.assertEqual(goes_on(letters, row), [])

    def test_rows_of_399_and_of_400_signs(self):
        seen = {}
        for letters in ALL_LETTERS:
            for whole in long_rows(letters):
                for many in (399, 400):
                    for row in rows_near(letters, whole, many):
                        smooth = is_smooth(letters, row)
                        asked = [sign for sign in letters if smooth and is_smooth(letters, row + [sign])]
                        self.assertEqual(goes_on(letters, row), asked, (letters, row))
                        seen[(many, smooth, tuple(sign == letters[0] for sign in asked))] = True
        # Each answer that there can be is among those compared.
        for many in (399, 400):
            for answer in [(False, ()), (True, ()), (True, (True,)), (True, (False,)), (True, (True, False))]:
                self.assertIn((many,) + answer, seen)

    def test_401_signs_are_refused(self):
        for letters in ALL_LETTERS:
            row = own(letters, letters[1], 400)
            for sign in letters:
                self.assertRaises(NoRow, goes_on, letters, row + [sign])


class AllSmooth(unittest.TestCase):
    def test_written_out(self):
        self.assertEqual(all_smooth((1, 2), 0), [[]])
        self.assertEqual(all_smooth((1, 2), 1), [[1], [2]])
        self.assertEqual(all_smooth((1, 2), 2), [[1, 1], [1, 2], [2, 1], [2, 2]])
        self.assertEqual(
            all_smooth((1, 2), 3),
            [[1, 1, 2], [1, 2, 1], [1, 2, 2], [2, 1, 1], [2, 1, 2], [2, 2, 1]],
        )
        self.assertEqual(
            all_smooth((2, 3), 3),
            [[2, 2, 2], [2, 2, 3], [2, 3, 3], [3, 2, 2], [3, 3, 2], [3, 3, 3]],
        )

    def test_how_many_there_are(self):
        told = [
            ((1, 2), [1, 2, 4, 6, 10, 14, 18, 26, 34, 42, 50]),
            ((2, 3), [1, 2, 4, 6, 8, 10, 14, 18, 22, 26, 30]),
            ((8, 9), [1, 2, 4, 6, 8, 10, 12, 14, 16, 18, 20]),
        ]
        for letters, counts in told:
            self.assertEqual([len(all_smooth(letters, many)) for many in range(11)], counts)

    def test_all_of_them_in_order(self):
        for letters in ALL_LETTERS:
            for many in range(11):
                rows = [list(signs) for signs in itertools.product(letters, repeat=many)]
                asked = [row for row in rows if is_smooth(letters, row)]
                self.assertEqual(all_smooth(letters, many), asked, (letters, many))

    def test_in_the_order_of_lists_and_none_twice(self):
        for letters in ALL_LETTERS:
            for many in range(11):
                rows = all_smooth(letters, many)
                self.assertTrue(all(row < later for row, later in zip(rows, rows[1:])))

    def test_another_number_is_refused(self):
        for letters in ALL_LETTERS:
            for many in [-10, -2, -1, 11, 12, 400]:
                self.assertRaises(TooMany, all_smooth, letters, many)

    def test_the_letters_are_refused_ahead_of_that(self):
        for letters in [(2, 1), (1, 1), (0, 1), (9, 10)]:
            for many in [-1, 0, 10, 11]:
                self.assertRaises(NoLetters, all_smooth, letters, many)


if __name__ == "__main__":
    unittest.main()
