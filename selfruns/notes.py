"""Rows written as texts of figures, and read from them."""

from selfruns.checks import check_letters
from selfruns.checks import check_row
from selfruns.errors import BadText


def shown(letters, row):
    check_row(letters, row)
    return "".join([str(sign) for sign in row])


# The figures are compared as they are written and not made numbers of, since int takes blanks and signs besides.
def read(letters, text):
    check_letters(letters)
    signs = {str(letters[0]): letters[0], str(letters[1]): letters[1]}
    row = []
    for figure in text:
        if figure not in signs:
            raise BadText(f"neither of the two figures: {figure!r}")
        row.append(signs[figure])
    return row
