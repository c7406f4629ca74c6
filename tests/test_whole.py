import copy
import itertools
import unittest

from selfruns.errors import NoLetters, NoRow
from selfruns.notes import read, shown
from selfruns.own import own, own_runs
from selfruns.rows import built, exchanged, lengths
from selfruns.smooth import all_smooth, goes_on, height, inner

ALL_LETTERS = [(a, b) for a in range(1, 10) for b in range(a + 1, 10)]
NO_LETTERS = [pair for pair in itertools.product(range(-2, 13), repeat=2) if pair not in ALL_LETTERS]
ROW_FUNCTIONS = [lengths, exchanged, inner, height, goes_on, shown]

# What is handed in behind the letters (1, 2), and what is told of it.
LIST_CALLS = [
    (lengths, ([],), []),
    (lengths, ([1, 2, 2],), [1, 2]),
    (exchanged, ([],), []),
    (exchanged, ([1, 2, 2],), [2, 1, 1]),
    (built, (1, []), []),
    (built, (1, [1, 2]), [1, 2, 2]),
    (own, (1, 0), []),
    (own, (1, 5), [1, 2, 2, 1, 1]),
    (own, (2, 5), [2, 2, 1, 1, 2]),
    (own_runs, (1, 0), []),
    (own_runs, (1, 3), [(1, 0, 1), (2, 1, 2), (1, 3, 2)]),
    (inner, ([],), []),
    (inner, ([1],), []),
    (inner, ([1, 1, 2, 1, 1],), [2, 1, 2]),
    (goes_on, ([],), [1, 2]),
    (goes_on, ([1, 1],), [2]),
    (goes_on, ([1, 1, 1],), []),
    (all_smooth, (0,), [[]]),
    (all_smooth, (2,), [[1, 1], [1, 2], [2, 1], [2, 2]]),
    (read, ("",), []),
    (read, ("122",), [1, 2, 2]),
]
OTHER_CALLS = [
    (height, ([],), 0),
    (height, ([1, 1, 2, 2],), 3),
    (height, ([1, 1, 1],), None),
    (inner, ([1, 1, 1],), None),
    (shown, ([],), ""),
    (shown, ([1, 2, 2],), "122"),
]


def calls_of_any_worth(sign):
    calls = []
    for function in ROW_FUNCTIONS:
        calls.extend([(function, ([],)), (function, ([sign],)), (function, ([99],)), (function, ([sign] * 401,))])
    for asked in (sign, 99):
        calls.extend([(built, (asked, some)) for some in ([], [1], [0], [10] * 61)])
        calls.extend([(function, (asked, many)) for function in (own, own_runs) for many in (-1, 0, 5, 61, 401)])
    calls.extend([(all_smooth, (many,)) for many in (-1, 0, 5, 11)])
    calls.extend([(read, (text,)) for text in ("", "1", "x", "1\n")])
    return calls


class Refusals(unittest.TestCase):
    def test_letters_ahead_of_all_else_in_every_function(self):
        for letters in NO_LETTERS:
            for sign in letters:
                for function, handed in calls_of_any_worth(sign):
                    with self.subTest(function=function.__name__, letters=letters, handed=handed):
                        self.assertRaises(NoLetters, function, letters, *handed)

    def test_all_right_letters_are_taken_in_every_function(self):
        for letters in ALL_LETTERS:
            for function in ROW_FUNCTIONS:
                function(letters, list(letters))
            for sign in letters:
                built(letters, sign, [1])
                own(letters, sign, 1)
                own_runs(letters, sign, 1)
            all_smooth(letters, 1)
            read(letters, str(letters[1]))

    def test_rows_in_every_function_that_is_handed_one(self):
        for letters in [(1, 2), (3, 5), (8, 9)]:
            a, b = letters
            others = [number for number in range(-3, 100) if number not in letters]
            for function in ROW_FUNCTIONS:
                with self.subTest(function=function.__name__, letters=letters):
                    for other in others:
                        for row in [[other], [other, a], [a, other, b], [a, b, other]]:
                            self.assertRaises(NoRow, function, letters, row)
                    self.assertRaises(NoRow, function, letters, [a] * 399 + [b + 1])
                    self.assertRaises(NoRow, function, letters, [a] * 401)
                    self.assertRaises(NoRow, function, letters, [a, b] * 200 + [a])
                    self.assertRaises(NoRow, function, letters, own(letters, a, 400) + [b])

    def test_rows_of_400_signs_are_taken(self):
        for letters in [(1, 2), (3, 5), (8, 9)]:
            for row in [[letters[0]] * 400, list(letters) * 200, own(letters, letters[0], 400)]:
                for function in ROW_FUNCTIONS:
                    function(letters, row)


class HandedInAndTold(unittest.TestCase):
    def test_what_is_told(self):
        for function, handed, asked in LIST_CALLS + OTHER_CALLS:
            with self.subTest(function=function.__name__, handed=handed):
                self.assertEqual(function((1, 2), *handed), asked)

    def test_what_is_handed_in_stays_as_it_was(self):
        for function, handed, _ in LIST_CALLS + OTHER_CALLS:
            with self.subTest(function=function.__name__, handed=handed):
                given = copy.deepcopy(handed)
                function((1, 2), *given)
                self.assertEqual(given, handed)

    def test_a_long_row_that_is_handed_in_stays_as_it_was(self):
        for function in ROW_FUNCTIONS:
            row = own((1, 2), 1, 400)
            function((1, 2), row)
            self.assertEqual(row, own((1, 2), 1, 400))

    def test_it_stays_so_where_it_is_refused(self):
        for function in ROW_FUNCTIONS:
            row = [1, 2, 3]
            self.assertRaises(NoRow, function, (1, 2), row)
            self.assertEqual(row, [1, 2, 3])

    def test_lists_that_are_told_may_be_changed(self):
        for function, handed, asked in LIST_CALLS:
            with self.subTest(function=function.__name__, handed=handed):
                first = function((1, 2), *handed)
                second = function((1, 2), *handed)
                self.assertIsInstance(first, list)
                first.append(7)
                first.reverse()
                self.assertEqual(second, asked)
                self.assertEqual(function((1, 2), *handed), asked)

    def test_lists_within_the_list_may_be_changed(self):
        for many in range(11):
            rows = all_smooth((1, 2), many)
            kept = copy.deepcopy(rows)
            self.assertEqual(len({id(row) for row in rows}), len(rows))
            for number, row in enumerate(rows):
                row.append(7)
                self.assertEqual(rows[number + 1:], kept[number + 1:])
            self.assertEqual(all_smooth((1, 2), many), kept)

    def test_no_list_that_is_told_is_one_that_was_handed_in(self):
        for function, handed, _ in LIST_CALLS:
            told = function((1, 2), *handed)
            for given in handed:
                self.assertIsNot(told, given, function.__name__)

    def test_nothing_hangs_on_what_was_handed_in(self):
        for function, handed, asked in LIST_CALLS:
            with self.subTest(function=function.__name__, handed=handed):
                given = copy.deepcopy(handed)
                told = function((1, 2), *given)
                for value in given:
                    if isinstance(value, list):
                        value.append(2)
                        value.reverse()
                self.assertEqual(told, asked)
                self.assertEqual(function((1, 2), *handed), asked)


if __name__ == "__main__":
    unittest.main()
