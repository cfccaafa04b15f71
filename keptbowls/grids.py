"""Grids, tuples of as many tuples as these have numbers: the reckoning that Tables and Forms share."""

from keptbowls.basics import is_integer, is_list
from keptbowls.errors import InvalidSize
from keptbowls.rows import is_row_of


def is_grid(value):
    """Whether the value is a list of 1 to 3 rows of as many integers."""
    return is_list(value) and all([is_row_of(len(value), row) for row in value]) and len(value) > 0


def check_size(size):
    """InvalidSize unless it is an integer from 1 to 3."""
    if not is_integer(size) or not 1 <= size <= 3:
        raise InvalidSize(size)


def copied(rows):
    """The rows as a tuple of tuples."""
    return tuple([tuple(row) for row in rows])


def unit_rows(many):
    """So many rows with 1 at their own place and 0 elsewhere."""
    return tuple([tuple([1 if place == at else 0 for place in range(many)]) for at in range(many)])


def across(rows):
    """The columns of the rows, as rows."""
    return tuple([tuple(column) for column in zip(*rows)])


def scalar(row, other):
    """The products of both rows, place by place, added up."""
    return sum([number * factor for number, factor in zip(row, other)])


def led_row(rows, row):
    """The row to which the rows lead this one."""
    return tuple([scalar(line, row) for line in rows])


def multiplied(rows, others):
    """The product of two grids."""
    columns = across(others)
    return tuple([led_row(columns, row) for row in rows])


def without(rows, at, place):
    """What is left without the row and the place."""
    return tuple([row[:place] + row[place + 1:] for index, row in enumerate(rows) if index != at])


def leading(rows, many):
    """The first so many rows and places."""
    return tuple([row[:many] for row in rows[:many]])


def determinant_of(rows):
    """The determinant, 1 where there are no rows."""
    if len(rows) == 0:
        return 1
    if len(rows) == 2:
        # The sum below says the same: but most determinants end here, and this is far quicker.
        return rows[0][0] * rows[1][1] - rows[0][1] * rows[1][0]
    return sum([number * cofactor(rows, 0, place) for place, number in enumerate(rows[0])])


def cofactor(rows, at, place):
    """The determinant of what is left without the row and the place, with its sign."""
    left = determinant_of(without(rows, at, place))
    return left if (at + place) % 2 == 0 else -left


def rests_of(rows, modulus):
    """What the numbers of the rows leave by the modulus."""
    return tuple([tuple([number % modulus for number in row]) for row in rows])


def trace_of(rows):
    """The numbers at (i, i) added up."""
    return sum([row[at] for at, row in enumerate(rows)])


def polynomial_of(rows):
    """The determinant of t times the unit rows less these rows, from the number without t on."""
    whole, trace = determinant_of(rows), trace_of(rows)
    if len(rows) == 1:
        return (-whole, 1)
    if len(rows) == 2:
        return (whole, -trace, 1)
    middle = sum([cofactor(rows, at, at) for at in range(3)])
    return (-whole, middle, -trace, 1)
