"""Own rows: those whose lengths are the row itself."""

from selfruns.checks import MOST_RUNS
from selfruns.checks import MOST_SIGNS
from selfruns.checks import check_many
from selfruns.checks import check_sign
from selfruns.rows import other_sign


# Where the row does not yet reach the sign that tells a run's length, that sign is the first one of the run itself.
def first_runs(letters, sign, many):
    row = []
    runs = []
    turn = sign
    for number in range(many):
        length = row[number] if number < len(row) else turn
        runs.append((turn, len(row), length))
        row.extend([turn] * length)
        turn = other_sign(letters, turn)
    return runs


# No run is without signs, so as many runs as signs are wished always reach far enough.
def own(letters, sign, many):
    check_sign(letters, sign)
    check_many(many, MOST_SIGNS)
    row = []
    for run in first_runs(letters, sign, many):
        row.extend([run[0]] * run[2])
    return row[:many]


def own_runs(letters, sign, many):
    check_sign(letters, sign)
    check_many(many, MOST_RUNS)
    return first_runs(letters, sign, many)
