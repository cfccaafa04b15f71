"""The least worths of a bowl, and the rows that have them."""

from keptbowls.basics import is_list
from keptbowls.bowls import check_bowl
from keptbowls.grids import across, determinant_of
from keptbowls.rows import is_row_of
from keptbowls.shorts import MOST_ROWS, rows_to, shortest_table


def least_worth(bowl):
    """The least worth above 0 that a row has."""
    return steps_of(bowl)[0]


def least_rows(bowl):
    """The sorted list of all rows of the least worth."""
    least = least_worth(bowl)
    return sorted([row for row in rows_to(bowl, least, MOST_ROWS) if bowl.worth(row) == least])


def steps_of(bowl):
    """The list of the bowl's steps."""
    return [bowl.worth(row) for row in step_rows(bowl)]


def step_rows(bowl):
    """Step rows of the bowl, a list of tuples."""
    check_bowl(bowl)
    return list(across(shortest_table(bowl).rows))


def is_step_rows(bowl, value):
    """Whether the value is a list that is step rows of the bowl."""
    steps = steps_of(bowl)
    if not is_list(value) or not all([is_row_of(bowl.size, row) for row in value]):
        return False
    return [bowl.worth(row) for row in value] == steps and determinant_of(value) != 0
