import itertools
import unittest

from selfruns.errors import NoLetters, NoSign, TooMany
from selfruns.own import own, own_runs

ALL_LETTERS = [(a, b) for a in range(1, 10) for b in range(a + 1, 10)]
ALL_BEGINNINGS = [(letters, sign) for letters in ALL_LETTERS for sign in letters]


def figures(text):
    return [int(figure) for figure in text]


def lengths_by_groups(row):
    return [len(list(group)) for _, group in itertools.groupby(row)]


class Own(unittest.TestCase):
    def test_written_out_with_1_among_the_letters(self):
        told = [
            ((1, 2), 1, "122112122122112112212112122112112122122112122121121122122112"),
            ((1, 2), 2, "2211212212211211221211212211211212212211"),
            ((1, 3), 1, "1333111333131333111333133313331113331313"),
            ((1, 3), 3, "3331113331313331113331333133311133313133"),
            ((1, 9), 1, "1999999999" + "1" * 9 + "9" * 9 + "1" * 9),
            ((1, 9), 9, "9" * 9 + "1" * 9 + "9" * 9 + "1" * 9),
        ]
        for letters, sign, text in told:
            with self.subTest(letters=letters, sign=sign):
                self.assertEqual(own(letters, sign, len(text)), figures(text))

    def test_written_out_without_1(self):
        told = [
            ((2, 3), 2, "2233222333223322333222333223322233322332"),
            ((2, 3), 3, "3332223332233223332223332233222333223322"),
            ((2, 4), 2, "2244" + "22224444" + "22442244" + "22224444" + "22224444" + "2244"),
            ((8, 9), 8, "8" * 8 + "9" * 8 + "8" * 8 + "9" * 8 + "8" * 8 + "9" * 8 + "8" * 8 + "9" * 8 + "8" * 9),
            ((8, 9), 9, ("9" * 9 + "8" * 9) * 4 + "9" * 9 + "8" * 8),
        ]
        for letters, sign, text in told:
            with self.subTest(letters=letters, sign=sign):
                self.assertEqual(own(letters, sign, len(text)), figures(text))

    def test_begins_with_the_sign(self):
        for letters, sign in ALL_BEGINNINGS:
            self.assertEqual(own(letters, sign, 1), [sign])

    def test_the_first_run_that_is_not_told_of_before_is_as_long_as_its_sign(self):
        for letters, sign in ALL_BEGINNINGS:
            other = sum(letters) - sign
            first = [sign] * sign
            # Only behind a first run of one sign does the second run tell of itself as well.
            second = [other] * (other if sign == 1 else sign)
            self.assertEqual(own(letters, sign, len(first + second)), first + second)

    def test_its_lengths_but_the_last_are_its_own_beginning(self):
        for letters, sign in ALL_BEGINNINGS:
            with self.subTest(letters=letters, sign=sign):
                row = own(letters, sign, 400)
                some = lengths_by_groups(row)
                self.assertEqual(len(row), 400)
                self.assertEqual(some[:-1], row[:len(some) - 1])
                self.assertLessEqual(some[-1], row[len(some) - 1])
                self.assertTrue(set(row) <= set(letters))

    def test_fewer_signs_are_the_beginning_of_more(self):
        for letters, sign in ALL_BEGINNINGS:
            row = own(letters, sign, 400)
            for many in list(range(40)) + [100, 397, 398, 399]:
                self.assertEqual(own(letters, sign, many), row[:many], (letters, sign, many))

    def test_0_and_400_are_taken(self):
        for letters, sign in ALL_BEGINNINGS:
            self.assertEqual(own(letters, sign, 0), [])
            self.assertEqual(len(own(letters, sign, 400)), 400)

    def test_another_number_is_refused(self):
        for letters, sign in ALL_BEGINNINGS:
            for many in [-400, -2, -1, 401, 402, 1000]:
                self.assertRaises(TooMany, own, letters, sign, many)


class OwnRuns(unittest.TestCase):
    def test_written_out(self):
        told = [
            ((1, 2), 1, [(1, 0, 1), (2, 1, 2), (1, 3, 2), (2, 5, 1), (1, 6, 1), (2, 7, 2), (1, 9, 1), (2, 10, 2)]),
            ((1, 2), 2, [(2, 0, 2), (1, 2, 2), (2, 4, 1), (1, 5, 1), (2, 6, 2)]),
            ((1, 3), 1, [(1, 0, 1), (3, 1, 3), (1, 4, 3), (3, 7, 3), (1, 10, 1)]),
            ((2, 3), 3, [(3, 0, 3), (2, 3, 3), (3, 6, 3), (2, 9, 2), (3, 11, 2), (2, 13, 2), (3, 15, 3)]),
            ((4, 7), 4, [(4, 0, 4), (7, 4, 4), (4, 8, 4), (7, 12, 4), (4, 16, 7)]),
        ]
        for letters, sign, runs in told:
            with self.subTest(letters=letters, sign=sign):
                self.assertEqual(own_runs(letters, sign, len(runs)), runs)

    def test_each_is_a_tuple_of_three(self):
        runs = own_runs((1, 2), 1, 60)
        self.assertIsInstance(runs, list)
        for run in runs:
            self.assertIsInstance(run, tuple)
            self.assertEqual(len(run), 3)

    def test_one_behind_the_other_by_turns_each_as_long_as_the_row_tells(self):
        for letters, sign in ALL_BEGINNINGS:
            with self.subTest(letters=letters, sign=sign):
                row = own(letters, sign, 60)
                place = 0
                turn = sign
                for number, run in enumerate(own_runs(letters, sign, 60)):
                    self.assertEqual(run, (turn, place, row[number]))
                    place += run[2]
                    turn = sum(letters) - turn

    def test_they_are_the_runs_of_the_own_row(self):
        for letters, sign in ALL_BEGINNINGS:
            signs = []
            for run in own_runs(letters, sign, 60):
                signs.extend([run[0]] * run[2])
            self.assertEqual(signs[:400], own(letters, sign, min(len(signs), 400)))

    def test_fewer_runs_are_the_beginning_of_more(self):
        for letters, sign in ALL_BEGINNINGS:
            runs = own_runs(letters, sign, 60)
            for many in range(60):
                self.assertEqual(own_runs(letters, sign, many), runs[:many], (letters, sign, many))

    def test_0_and_60_are_taken(self):
        for letters, sign in ALL_BEGINNINGS:
            self.assertEqual(own_runs(letters, sign, 0), [])
            self.assertEqual(len(own_runs(letters, sign, 60)), 60)

    def test_another_number_is_refused(self):
        for letters, sign in ALL_BEGINNINGS:
            for many in [-60, -2, -1, 61, 62, 400]:
                self.assertRaises(TooMany, own_runs, letters, sign, many)


class WrongSigns(unittest.TestCase):
    def test_a_sign_that_is_neither_is_refused(self):
        for function in [own, own_runs]:
            for sign in [-3, 0, 1, 2, 4, 6, 9, 10]:
                for many in [0, 1, 60]:
                    self.assertRaises(NoSign, function, (3, 5), sign, many)

    def test_ahead_of_another_number(self):
        for function in [own, own_runs]:
            for many in [-1, 61, 401, 1000]:
                self.assertRaises(NoSign, function, (3, 5), 4, many)

    def test_behind_the_letters(self):
        for function in [own, own_runs]:
            for letters in [(5, 3), (3, 3), (0, 3), (3, 10)]:
                self.assertRaises(NoLetters, function, letters, 4, 1)
                self.assertRaises(NoLetters, function, letters, 3, -1)
                self.assertRaises(NoLetters, function, letters, 4, 1000)


if __name__ == "__main__":
    unittest.main()
