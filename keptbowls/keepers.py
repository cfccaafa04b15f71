"""The keepers of a bowl: all Tables that keep it."""

from keptbowls.bowls import check_bowl
from keptbowls.grids import across
from keptbowls.kept import keeps
from keptbowls.lots import Lot
from keptbowls.orders import order
from keptbowls.shorts import MOST_ROWS, rows_to, shortest_table
from keptbowls.tables import Table, in_sequence


def is_keeper(bowl, value):
    """Whether the value is a keeper of the bowl."""
    check_bowl(bowl)
    return isinstance(value, Table) and value.size == bowl.size and keeps(value, bowl)


def keepers(bowl):
    """The sorted list of all keepers of the bowl."""
    check_bowl(bowl)
    return leading_tables(bowl, bowl)


def keepers_lot(bowl):
    """A Lot of 1 to 4 makers whose members are all keepers."""
    # The first one has the greatest order, 6 of 48 keepers, and each further one at least doubles the
    # lot: so four are enough.
    told = sorted(keepers(bowl), key=order, reverse=True)
    lot = Lot(told[:1])
    for keeper in told:
        if not lot.has(keeper):
            lot = Lot(lot.makers() + [keeper])
    return lot


def leading_tables(bowl, goal):
    """The sorted list of the Tables by which the bowl, led, is the goal, a bowl of its size."""
    table, other = shortest_table(bowl), shortest_table(goal)
    # The numbers at (i, i) of what both are led to are steps: no more rows come in question than need be.
    found = _columns_alike(bowl.led(table), goal.led(other))
    back = other.undone()
    return in_sequence([table * Table(across(columns)) * back for columns in found])


def _columns_alike(bowl, goal):
    """Lists of rows of the bowl, each two of which have as much between them as the goal has at their places."""
    # Asked for ahead of all: too many rows are told whatever the goal is.
    rows = rows_to(bowl, bowl.rows[-1][-1], MOST_ROWS)
    if bowl.determinant != goal.determinant:
        return []
    told = [[]]
    for place, line in enumerate(goal.rows):
        # One more at a time, each with what the goal tells of it with itself and with those ahead.
        near = [row for row in rows if bowl.worth(row) == line[place]]
        told = [columns + [row] for columns in told for row in near if _fits(bowl, line, columns, row)]
    return told


def _fits(bowl, line, columns, row):
    """Whether the row has the numbers of the line between each of the columns and itself."""
    return all([bowl.between(column, row) == number for column, number in zip(columns, line)])
