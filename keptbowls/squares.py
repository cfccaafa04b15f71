"""Bowls as sums of squares."""

from keptbowls.basics import is_integer, is_list
from keptbowls.forms import check_form, corners
from keptbowls.grids import determinant_of
from keptbowls.rows import is_row_of


def squares(form):
    """Squares of the form, a list of tuples (bottom, row); None unless it is a bowl."""
    told = corners(form)
    if min(told) <= 0:
        return None
    ahead = [1] + told
    places = range(form.size)
    return [(ahead[at] * told[at], tuple([_leaned(form.rows, at, place) for place in places])) for at in places]


def is_squares(form, value):
    """Whether the value is squares of the form."""
    check_form(form)
    if not is_list(value) or len(value) != form.size:
        return False
    if not all([is_square_at(form.size, place, pair) for place, pair in enumerate(value)]):
        return False
    return _adds_up(form.rows, value)


def is_square_at(size, place, pair):
    """Whether it is a tuple (bottom, row) as squares of this size have at the place."""
    if not isinstance(pair, tuple) or len(pair) != 2:
        return False
    bottom, row = pair
    if not is_integer(bottom) or bottom < 1 or not is_row_of(size, row):
        return False
    return row[place] != 0 and all([number == 0 for number in row[:place]])


def _leaned(rows, at, place):
    """The determinant of the rows to the one at the position, with the places ahead of it and this place."""
    return determinant_of(tuple([row[:at] + (row[place],) for row in rows[:at + 1]]))


def _adds_up(rows, told):
    """Whether the squares, each divided by its bottom, have the numbers of these rows."""
    whole = 1
    for bottom, _ in told:
        whole = whole * bottom
    for at, line in enumerate(rows):
        for place, number in enumerate(line):
            # All is multiplied by all bottoms: so no fractions come up.
            if sum([row[at] * row[place] * (whole // bottom) for bottom, row in told]) != number * whole:
                return False
    return True
