"""Rows of 1 to 3 integers."""

from keptbowls.basics import is_integer, is_list
from keptbowls.errors import InvalidRow


def is_row(value):
    """Whether the value is a row."""
    return is_list(value) and 1 <= len(value) <= 3 and all([is_integer(number) for number in value])


def is_row_of(size, value):
    """Whether the value is a row of this size."""
    return is_row(value) and len(value) == size


def check_row(size, row):
    """InvalidRow unless it is a row of this size."""
    if not is_row_of(size, row):
        raise InvalidRow(row)
