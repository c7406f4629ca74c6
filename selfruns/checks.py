"""The refusals of what is handed in, in the order in which they go ahead of one another."""

from selfruns.errors import NoLengths
from selfruns.errors import NoLetters
from selfruns.errors import NoRow
from selfruns.errors import NoSign
from selfruns.errors import TooMany

LEAST_NUMBER = 1
GREATEST_NUMBER = 9
MOST_SIGNS = 400
MOST_LENGTHS = 60
MOST_RUNS = 60
LONGEST_LISTED = 10


def check_letters(letters):
    if len(letters) != 2 or not LEAST_NUMBER <= letters[0] < letters[1] <= GREATEST_NUMBER:
        raise NoLetters(f"no letters: {letters!r}")


# The letters come first here too, so that no asker of a row can forget the order of the refusals.
def check_row(letters, row):
    check_letters(letters)
    if len(row) > MOST_SIGNS:
        raise NoRow(f"a row has {MOST_SIGNS} signs at most")
    for sign in row:
        if sign not in letters:
            raise NoRow(f"no sign of the row's letters: {sign!r}")


def check_sign(letters, sign):
    check_letters(letters)
    if sign not in letters:
        raise NoSign(f"neither of the two signs: {sign!r}")


def check_lengths(some):
    if len(some) > MOST_LENGTHS:
        raise NoLengths(f"there are {MOST_LENGTHS} lengths at most")
    for length in some:
        if not LEAST_NUMBER <= length <= GREATEST_NUMBER:
            raise NoLengths(f"no length from 1 to 9: {length!r}")


def check_many(many, most):
    if not 0 <= many <= most:
        raise TooMany(f"not from 0 to {most}: {many!r}")
