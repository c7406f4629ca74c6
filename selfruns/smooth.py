"""Inner lengths, smooth rows and their heights, and how smooth rows go on."""

from selfruns.checks import LONGEST_LISTED
from selfruns.checks import check_letters
from selfruns.checks import check_many
from selfruns.checks import check_row
from selfruns.rows import run_lengths


def lengths_fit(letters, some):
    if any([length > letters[1] for length in some]):
        return False
    return all([length in letters for length in some[1:-1]])


def inner_lengths(letters, row):
    some = run_lengths(row)
    if not lengths_fit(letters, some):
        return None
    if some and some[0] != letters[1]:
        some = some[1:]
    # A row's only run may be left out already, as its first one.
    if some and some[-1] != letters[1]:
        some = some[:-1]
    return some


# The loop ends: there are as many lengths as signs only where each run is one sign long, and since b is more than
# one, the first of these is left out.
def smooth_height(letters, row):
    steps = 0
    rest = row
    while rest:
        rest = inner_lengths(letters, rest)
        if rest is None:
            return None
        steps += 1
    return steps


# A row that is not smooth is told to go on with nothing, without being asked about by itself: it is a piece of each
# row that it would go on to, and each piece of a smooth row is smooth.
def next_signs(letters, row):
    return [sign for sign in letters if smooth_height(letters, row + [sign]) is not None]


def inner(letters, row):
    check_row(letters, row)
    return inner_lengths(letters, row)


def height(letters, row):
    check_row(letters, row)
    return smooth_height(letters, row)


def goes_on(letters, row):
    check_row(letters, row)
    return next_signs(letters, row)


# Each smooth row without its last sign is smooth, so none is left out by going on from the shorter ones; going on
# by the lesser sign first keeps the order of lists.
def all_smooth(letters, many):
    check_letters(letters)
    check_many(many, LONGEST_LISTED)
    rows = [[]]
    for size in range(many):
        longer = []
        for row in rows:
            longer.extend([row + [sign] for sign in next_signs(letters, row)])
        rows = longer
    return rows
