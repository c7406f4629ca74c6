"""Rows, the lengths of their runs, and rows built on lengths."""

from selfruns.checks import check_lengths
from selfruns.checks import check_row
from selfruns.checks import check_sign


def other_sign(letters, sign):
    return letters[1] if sign == letters[0] else letters[0]


# Without a check, since a smooth row may be asked about with one sign more than a row that is handed in has.
def run_lengths(row):
    told = []
    last = None
    for sign in row:
        if sign == last:
            told[-1] += 1
        else:
            told.append(1)
        last = sign
    return told


def lengths(letters, row):
    check_row(letters, row)
    return run_lengths(row)


def exchanged(letters, row):
    check_row(letters, row)
    return [other_sign(letters, sign) for sign in row]


# What is built is not held to the 400 signs of a row that is handed in: only the lengths are bounded.
def built(letters, sign, some):
    check_sign(letters, sign)
    check_lengths(some)
    row = []
    turn = sign
    for length in some:
        row.extend([turn] * length)
        turn = other_sign(letters, turn)
    return row
